/- texts of a claim, one after the other: the reference's Mode, Waiting, place and Same, the reference's Cancel, Drop and Release, what reads, its spare cut off, is appended to: the whole is new -/
import Derived.Test.YtcnaalbpbalgdaaLd2
import Derived.Deep.CutBlock
import Derived.Test.YtcnaalbpbalgdaaLd1
import Derived.ArgAppend
/- the reference's Mode, Waiting, place and Same -/
namespace Go.Proofs.Ytcnaalbpbalgdaa
open Go.RowKit
set_option maxRecDepth 20000
set_option linter.unusedSimpArgs false
set_option linter.unusedVariables false

set_option maxHeartbeats 4000000 in
theorem rMode_any {h v : Value} {t : Tb} {R : List Rng} (tx : Int) (k : Lok) (w : World) (ht : TbRd h v t R) (hR : RdIn w R) (hg : GoodTb t) (hk : GoodLk k) :
    Calls Try.prog 21 #[.agg (tbCells h v).toArray, .int .i64 tx, .agg (lkCells k).toArray] w fun e w' => e = .returned (.int .i64 (modeT t tx k.page k.slot)) ∧ Below w.heap.size w w' := by
  obtain ⟨a, cap, rfl, hnc, hcm⟩ := ht.1.shape
  obtain ⟨a2, cap2, rfl, hnc2, hcm2⟩ := ht.2.shape
  have HT := Lib.hid ht
  have HR := Lib.hid hR
  have HG := Lib.hid hg
  have HVa : Hid (∀ W, Below w.heap.size w W → Calls Try.prog 13 #[.agg (tbCells (.slice a t.held.length cap) (.slice a2 t.wait.length cap2)).toArray] W fun e w' => e = .returned (.bool (tbOkB t)) ∧ Below W.heap.size W w') := fun W hb => rlkvalid_any W HT.out (HR.out.below hb) HG.out
  have HMo : Hid (∀ W, Below w.heap.size w W → ∀ tx k, GoodLk k → Calls Try.prog 38 #[.agg (tbCells (.slice a t.held.length cap) (.slice a2 t.wait.length cap2)).toArray, .int .i64 tx, .agg (lkCells k).toArray] W fun e w' => e = .returned (.int .i64 (modeR t.held tx k.page k.slot)) ∧ Below W.heap.size W w') := fun W hb tx k hk => rmode_any tx k W HT.out (HR.out.below hb) HG.out hk
  have HMk : Hid (∀ W, Below w.heap.size w W → Calls Try.prog 38 #[.agg (tbCells (.slice a t.held.length cap) (.slice a2 t.wait.length cap2)).toArray, .int .i64 tx, .agg (lkCells k).toArray] W fun e w' => e = .returned (.int .i64 (modeR t.held tx k.page k.slot)) ∧ Below W.heap.size W w') := fun W hb => HMo.out W hb tx k hk
  have HV : Hid (modeT t tx k.page k.slot = if tbOkB t = true then modeR t.held tx k.page k.slot else 0) := rfl
  clear HMo ht hR hg hk
  have h1 := ((Hp.start w).put 25 (tbCells (.slice a t.held.length cap) (.slice a2 t.wait.length cap2))).put 27 (lkCells k)
  simp only [World.size_alloc, List.nil_append, List.cons_append] at h1
  have HS0 : Hid (Hp w [.ob w.heap.size 25 (tbCells (.slice a t.held.length cap) (.slice a2 t.wait.length cap2)), .ob (w.heap.size + 1) 27 (lkCells k)] ((w.alloc (.cells (tbCells (.slice a t.held.length cap) (.slice a2 t.wait.length cap2)).toArray 25)).alloc (.cells (lkCells k).toArray 27))) := h1
  clear h1
  generalize tbOkB t = ok at *
  go_enter Try.func21, Try.ntmps21
  go_upto_region 1 with (fail)
  generalize ((w.alloc (.cells (tbCells (.slice a t.held.length cap) (.slice a2 t.wait.length cap2)).toArray 25)).alloc (.cells (lkCells k).toArray 27)) = w1 at *
  generalize w.heap.size + 1 = b2 at *
  have b0 : w1.cell? ⟨w.heap.size, 0, none⟩ = some (.slice a t.held.length cap) := (HS0.out).at 0 rfl 0 rfl
  have b1 : w1.cell? ⟨w.heap.size, 1, none⟩ = some (.slice a2 t.wait.length cap2) := (HS0.out).at 0 rfl 1 rfl
  go_wp2_with fail
  refine (HVa.out _ HS0.out.old).mono ?_
  rintro e w2 ⟨rfl, hb⟩
  have HS1 := Lib.hid (HS0.out.calls hb)
  clear b0 b1 HS0 hb
  cases ok
  · go_wp2_with fail
    go_ret
    exact ⟨by rw [HV.out]; rfl, HS1.out.old⟩
  · have b0 : w2.cell? ⟨w.heap.size, 0, none⟩ = some (.slice a t.held.length cap) := (HS1.out).at 0 rfl 0 rfl
    have b1 : w2.cell? ⟨w.heap.size, 1, none⟩ = some (.slice a2 t.wait.length cap2) := (HS1.out).at 0 rfl 1 rfl
    have k0 : w2.cell? ⟨b2, 0, none⟩ = some (.int .i64 k.page) := HS1.out.at 1 rfl 0 rfl
    have k1 : w2.cell? ⟨b2, 1, none⟩ = some (.int .i64 k.slot) := HS1.out.at 1 rfl 1 rfl
    go_wp2_with fail
    refine (HMk.out _ HS1.out.old).mono ?_
    rintro e w3 ⟨rfl, hb⟩
    have HS2 := Lib.hid (HS1.out.calls hb)
    clear b0 b1 k0 k1 HS1 hb
    go_wp2_with fail
    go_ret
    exact ⟨by rw [HV.out]; rfl, HS2.out.old⟩
theorem wfind_first {l : List Gr} {i : Nat} {tx : Int} {x : Gr} (h : ∀ q, q < i → ∀ z, l[q]? = some z → z.tx ≠ tx) (hx : l[i]? = some x) (hk : x.tx = tx) : wfind l tx = some x := by
  have hlt := (List.getElem?_eq_some_iff.1 hx).1
  have e : l = l.take i ++ x :: l.drop (i + 1) := split_at hx
  unfold wfind
  rw [e, List.find?_append, List.find?_cons, decide_eq_true hk]
  have : (l.take i).find? (fun x => decide (x.tx = tx)) = none := by
    rw [List.find?_eq_none]
    intro z hz
    have := mem_take_of (P := fun z => z.tx ≠ tx) h z hz
    simpa using this
  rw [this]; rfl
theorem wfind_last {l : List Gr} {tx : Int} (h : ∀ q, q < l.length → ∀ z, l[q]? = some z → z.tx ≠ tx) : wfind l tx = none := by
  refine wfind_none_of (fun x hx => ?_)
  obtain ⟨q, hq, rfl⟩ := List.getElem_of_mem hx
  exact h q hq _ (List.getElem?_eq_getElem hq)
set_option maxHeartbeats 4000000 in
theorem rWaiting_any {h v : Value} {t : Tb} {R : List Rng} (tx : Int) (w : World) (ht : TbRd h v t R) (hR : RdIn w R) (hg : GoodTb t) :
    Calls Try.prog 25 #[.agg (tbCells h v).toArray, .int .i64 tx] w fun e w' => e = .returned (.tuple #[.agg (grCells (waitR t tx).1).toArray, .bool (waitR t tx).2]) ∧ Below w.heap.size w w' := by
  obtain ⟨a, cap, rfl, hnc, hcm⟩ := ht.1.shape
  obtain ⟨a2, cap2, rfl, hnc2, hcm2⟩ := ht.2.shape
  have HT := Lib.hid ht
  have HR := Lib.hid hR
  have HG := Lib.hid hg
  have HVa : Hid (∀ W, Below w.heap.size w W → Calls Try.prog 13 #[.agg (tbCells (.slice a t.held.length cap) (.slice a2 t.wait.length cap2)).toArray] W fun e w' => e = .returned (.bool (tbOkB t)) ∧ Below W.heap.size W w') := fun W hb => rlkvalid_any W HT.out (HR.out.below hb) HG.out
  have HMo : Hid (∀ W, Below w.heap.size w W → ∀ tx k, GoodLk k → Calls Try.prog 38 #[.agg (tbCells (.slice a t.held.length cap) (.slice a2 t.wait.length cap2)).toArray, .int .i64 tx, .agg (lkCells k).toArray] W fun e w' => e = .returned (.int .i64 (modeR t.held tx k.page k.slot)) ∧ Below W.heap.size W w') := fun W hb tx k hk => rmode_any tx k W HT.out (HR.out.below hb) HG.out hk
  have HNw := Lib.hid hg.few.2
  have HV : Hid (waitR t tx = if tbOkB t = true then ((wfind t.wait tx).getD grNil, (wfind t.wait tx).isSome) else (grNil, false)) := rfl
  clear HMo ht hR hg
  have h1 := ((Hp.start w).put 25 (tbCells (.slice a t.held.length cap) (.slice a2 t.wait.length cap2))).put 29 (grCells grNil)
  simp only [World.size_alloc, List.nil_append, List.cons_append] at h1
  have HS0 : Hid (Hp w [.ob w.heap.size 25 (tbCells (.slice a t.held.length cap) (.slice a2 t.wait.length cap2)), .ob (w.heap.size + 1) 29 (grCells grNil)] ((w.alloc (.cells (tbCells (.slice a t.held.length cap) (.slice a2 t.wait.length cap2)).toArray 25)).alloc (.cells #[.int .i64 0, .int .i64 0, .int .i64 0, .int .i64 0] 29))) := h1
  clear h1
  obtain ⟨fsHUG, huHUG⟩ := under_gr
  have HUG := Lib.hid huHUG
  clear huHUG
  obtain ⟨fsHUK, huHUK⟩ := under_lk
  have HUK := Lib.hid huHUK
  clear huHUK
  obtain ⟨fsHUT, huHUT⟩ := under_tb
  have HUT := Lib.hid huHUT
  clear huHUT
  generalize tbOkB t = ok at *
  go_enter Try.func25, Try.ntmps25
  go_upto_region 1 with (fail)
  generalize ((w.alloc (.cells (tbCells (.slice a t.held.length cap) (.slice a2 t.wait.length cap2)).toArray 25)).alloc (.cells #[.int .i64 0, .int .i64 0, .int .i64 0, .int .i64 0] 29)) = w1 at *
  generalize w.heap.size + 1 = b2 at *
  have b0 : w1.cell? ⟨w.heap.size, 0, none⟩ = some (.slice a t.held.length cap) := (HS0.out).at 0 rfl 0 rfl
  have b1 : w1.cell? ⟨w.heap.size, 1, none⟩ = some (.slice a2 t.wait.length cap2) := (HS0.out).at 0 rfl 1 rfl
  go_wp2_with fail
  refine (HVa.out _ HS0.out.old).mono ?_
  rintro e w2 ⟨rfl, hb⟩
  have HS1 := Lib.hid (HS0.out.calls hb)
  clear b0 b1 HS0 hb
  have hnm : (t.wait.length : Int) ≤ 100000 := by have := HNw.out; omega
  cases ok
  · have HE : Hid (waitR t tx = (grNil, false)) := Lib.hid (by rw [HV.out]; rfl)
    go_wp2_with (first | ((with_reducible refine wpList_build_v (d := some 29) 29 (.agg (grCells grNil).toArray) ?_ ?_); (intro W; simp only [List.map_toArray, List.map_cons, List.map_nil]; exact build_gr0 W); simp only [Act.put, List.setIfInBounds_toArray, List.set_cons_zero, List.set_cons_succ]) | ((with_reducible refine wpList_store_ob 29 (.tmp 4) b2 (grCells grNil) (grCells grNil) 29 ?_ ?_ ?_ ?_ ?_ ?_ ?_); (exact rfl); (exact rfl); (exact (HS1.out).get 1 rfl); (exact info_gr); (exact rfl); (exact (oneCell_gr _)); skip))
    have HS21 : Hid (Hp w [.ob (w.heap.size) 25 (tbCells (.slice a t.held.length cap) (.slice a2 t.wait.length cap2)), .ob b2 29 (grCells grNil)] (w2.setRow b2 (grCells grNil).toArray)) := (HS1.out).row 1 rfl (grCells grNil)
    clear HS1
    generalize (w2.setRow b2 (grCells grNil).toArray) = w21 at *
    refine bodyPost_ret (results_ob_tmp Try.results25 _ _ b2 (grCells grNil) 29 _ rfl ((HS21.out).get 1 rfl) HUG.out rfl info_gr) rfl ?_
    exact ⟨by rw [HE.out]; rfl, (HS21.out).old⟩
  · go_wp2_with fail
    go_loopw [6] (fun iv wr => ∃ i : Nat, i ≤ t.wait.length ∧ iv = .int .i64 i ∧ (∀ q, q < i → ∀ z, t.wait[q]? = some z → z.tx ≠ tx) ∧ Hp w [.ob w.heap.size 25 (tbCells (.slice a t.held.length cap) (.slice a2 t.wait.length cap2)), .ob b2 29 (grCells grNil)] wr) (fun iv _ => t.wait.length - (intOf iv).toNat)
    case atStart => exact ⟨0, by omega, rfl, fun q h => absurd h (by omega), HS1.out⟩
    case round =>
      clear HS1
      obtain ⟨i, hi, rfl, hf, hs⟩ := hrel
      have HY := Lib.hid hs
      have HF := Lib.hid hf
      have b1 : wr.cell? ⟨w.heap.size, 1, none⟩ = some (.slice a2 t.wait.length cap2) := hs.at 0 rfl 1 rfl
      clear hs hf
      by_cases hlt : i < t.wait.length
      · obtain ⟨g1, off1, rfl, hrw⟩ := HT.out.2.base (by omega)
        have HRw := Lib.hid hrw
        obtain ⟨x, hx⟩ : ∃ x, t.wait[i]? = some x := ⟨_, List.getElem?_eq_getElem hlt⟩
        have HXi := Lib.hid hx
        have hii : (i : Int) < (t.wait.length : Int) := by omega
        have hi0 : (0 : Int) ≤ (i : Int) := by omega
        have HLt := Lib.hid hlt
        have c0 : wr.cell? ⟨g1, off1 + i * 4, none⟩ = some (.int .i64 x.tx) := HRw.out wr (HR.out.below HY.out.old) (i * 4 + 0) _ (grRow_at t.wait i x hx 0 _ rfl)
        clear hrw hx hi hlt
        by_cases hk : x.tx = tx
        · obtain ⟨e1, n1⟩ := eq_facts hk
          have HE : Hid (waitR t tx = (x, true)) := Lib.hid (by have hv := HV.out; simp only [if_true] at hv; rw [hv, wfind_first HF.out HXi.out hk]; rfl)
          clear hk HF
          go_wp2_with (first | ((with_reducible refine wpList_load_at 29 (.tmp 27) g1 ((off1 + i * 4)) (grCells x) HUG.out ?_ ?_ ?_ ?_ ?_); (exact rfl); (exact (elem_rng (HRw.out _ (HR.out.below (HY.out).old)) HXi.out)); (exact rfl); (exact info_gr); simp only [Act.put, List.setIfInBounds_toArray, List.set_cons_zero, List.set_cons_succ]) | ((with_reducible refine wpList_store_ob 29 (.tmp 4) b2 (grCells x) (grCells grNil) 29 ?_ ?_ ?_ ?_ ?_ ?_ ?_); (exact rfl); (exact rfl); (exact (HY.out).get 1 rfl); (exact info_gr); (exact rfl); (exact (oneCell_gr _)); skip))
          have HS41 : Hid (Hp w [.ob (w.heap.size) 25 (tbCells (.slice a t.held.length cap) (.slice (some ⟨g1, off1, none⟩) t.wait.length cap2)), .ob b2 29 (grCells x)] (wr.setRow b2 (grCells x).toArray)) := (HY.out).row 1 rfl (grCells x)
          clear HY
          generalize (wr.setRow b2 (grCells x).toArray) = w41 at *
          refine bodyPost_ret (results_ob_tmp Try.results25 _ _ b2 (grCells x) 29 _ rfl ((HS41.out).get 1 rfl) HUG.out rfl info_gr) rfl ?_
          exact ⟨by rw [HE.out]; rfl, (HS41.out).old⟩
        · obtain ⟨e1, n1⟩ := ne_facts hk
          have HK := Lib.hid hk
          clear hk
          go_wp2_with fail
          go_roundw
          case rel =>
            refine ⟨i + 1, HLt.out, by go_num, fun q hq z hz => ?_, HY.out⟩
            rcases Nat.lt_or_ge q i with h3 | h3
            · exact HF.out q h3 z hz
            · obtain rfl : q = i := by omega
              rw [HXi.out] at hz
              rw [← Option.some.inj hz]; exact HK.out
          case measure => simp [intOf]; try (have := HLt.out; omega)
      · obtain rfl : i = t.wait.length := by omega
        have HE : Hid (waitR t tx = (grNil, false)) := Lib.hid (by have hv := HV.out; simp only [if_true] at hv; rw [hv, wfind_last HF.out]; rfl)
        clear hlt hi HF
        go_wp2_with (first | ((with_reducible refine wpList_build_v (d := some 29) 29 (.agg (grCells grNil).toArray) ?_ ?_); (intro W; simp only [List.map_toArray, List.map_cons, List.map_nil]; exact build_gr0 W); simp only [Act.put, List.setIfInBounds_toArray, List.set_cons_zero, List.set_cons_succ]) | ((with_reducible refine wpList_store_ob 29 (.tmp 4) b2 (grCells grNil) (grCells grNil) 29 ?_ ?_ ?_ ?_ ?_ ?_ ?_); (exact rfl); (exact rfl); (exact (HY.out).get 1 rfl); (exact info_gr); (exact rfl); (exact (oneCell_gr _)); skip))
        have HS21 : Hid (Hp w [.ob (w.heap.size) 25 (tbCells (.slice a t.held.length cap) (.slice a2 t.wait.length cap2)), .ob b2 29 (grCells grNil)] (wr.setRow b2 (grCells grNil).toArray)) := (HY.out).row 1 rfl (grCells grNil)
        clear HY
        generalize (wr.setRow b2 (grCells grNil).toArray) = w61 at *
        refine bodyPost_ret (results_ob_tmp Try.results25 _ _ b2 (grCells grNil) 29 _ rfl ((HS21.out).get 1 rfl) HUG.out rfl info_gr) rfl ?_
        exact ⟨by rw [HE.out]; rfl, (HS21.out).old⟩
theorem findIdx_first {l : List Gr} {P : Gr → Bool} {i : Nat} {x : Gr} (h : ∀ q, q < i → ∀ z, l[q]? = some z → P z = false) (hx : l[i]? = some x) (hp : P x = true) : l.findIdx P = i := by
  have hlt := (List.getElem?_eq_some_iff.1 hx).1
  rw [List.findIdx_eq hlt]
  refine ⟨by rw [(List.getElem?_eq_some_iff.1 hx).2]; exact hp, fun q hq => ?_⟩
  exact h q hq _ (List.getElem?_eq_getElem (by omega))
theorem findIdx_none {l : List Gr} {P : Gr → Bool} (h : ∀ q, q < l.length → ∀ z, l[q]? = some z → P z = false) : l.findIdx P = l.length := by
  rw [List.findIdx_eq_length]
  intro x hx
  obtain ⟨q, hq, rfl⟩ := List.getElem_of_mem hx
  exact h q hq _ (List.getElem?_eq_getElem hq)
def wantB (h : List Gr) (g w : Gr) : Bool := decide (w.page = g.page) && (decide (w.slot = g.slot) && decide (modeG h w = 0))
set_option maxHeartbeats 8000000 in
theorem rplace_any {h v : Value} {t : Tb} {R : List Rng} (g : Gr) (w : World) (ht : TbRd h v t R) (hR : RdIn w R) (hg : GoodTb t) (hk : GoodGr g) :
    Calls Try.prog 46 #[.agg (tbCells h v).toArray, .agg (grCells g).toArray] w fun e w' => e = .returned (.int .i64 (wplaceR t.held t.wait g : Nat)) ∧ Below w.heap.size w w' := by
  obtain ⟨a, cap, rfl, hnc, hcm⟩ := ht.1.shape
  obtain ⟨a2, cap2, rfl, hnc2, hcm2⟩ := ht.2.shape
  have HT := Lib.hid ht
  have HR := Lib.hid hR
  have HG := Lib.hid hg
  have HVa : Hid (∀ W, Below w.heap.size w W → Calls Try.prog 13 #[.agg (tbCells (.slice a t.held.length cap) (.slice a2 t.wait.length cap2)).toArray] W fun e w' => e = .returned (.bool (tbOkB t)) ∧ Below W.heap.size W w') := fun W hb => rlkvalid_any W HT.out (HR.out.below hb) HG.out
  have HMo : Hid (∀ W, Below w.heap.size w W → ∀ tx k, GoodLk k → Calls Try.prog 38 #[.agg (tbCells (.slice a t.held.length cap) (.slice a2 t.wait.length cap2)).toArray, .int .i64 tx, .agg (lkCells k).toArray] W fun e w' => e = .returned (.int .i64 (modeR t.held tx k.page k.slot)) ∧ Below W.heap.size W w') := fun W hb tx k hk => rmode_any tx k W HT.out (HR.out.below hb) HG.out hk
  have HNw := Lib.hid hg.few.2
  have HK := Lib.hid hk
  have HV : Hid (wplaceR t.held t.wait g = if modeG t.held g = 0 then t.wait.length else t.wait.findIdx (wantB t.held g)) := rfl
  have HMg : Hid (∀ W, Below w.heap.size w W → Calls Try.prog 38 #[.agg (tbCells (.slice a t.held.length cap) (.slice a2 t.wait.length cap2)).toArray, .int .i64 g.tx, .agg (lkCells g.lock).toArray] W fun e w' => e = .returned (.int .i64 (modeG t.held g)) ∧ Below W.heap.size W w') := fun W hb => HMo.out W hb g.tx g.lock hk.lock
  clear HVa ht hR hg hk
  have h1 := ((Hp.start w).put 25 (tbCells (.slice a t.held.length cap) (.slice a2 t.wait.length cap2))).put 29 (grCells g)
  simp only [World.size_alloc, List.nil_append, List.cons_append] at h1
  have HS0 : Hid (Hp w [.ob w.heap.size 25 (tbCells (.slice a t.held.length cap) (.slice a2 t.wait.length cap2)), .ob (w.heap.size + 1) 29 (grCells g)] ((w.alloc (.cells (tbCells (.slice a t.held.length cap) (.slice a2 t.wait.length cap2)).toArray 25)).alloc (.cells (grCells g).toArray 29))) := h1
  clear h1
  obtain ⟨fsHUG, huHUG⟩ := under_gr
  have HUG := Lib.hid huHUG
  clear huHUG
  obtain ⟨fsHUK, huHUK⟩ := under_lk
  have HUK := Lib.hid huHUK
  clear huHUK
  obtain ⟨fsHUT, huHUT⟩ := under_tb
  have HUT := Lib.hid huHUT
  clear huHUT
  generalize modeG t.held g = mg at *
  obtain ⟨S, hS⟩ : ∃ S, wplaceR t.held t.wait g = S := ⟨_, rfl⟩
  rw [hS] at HV
  rw [hS]
  clear hS
  go_enter Try.func46, Try.ntmps46
  go_upto_region 1 with (fail)
  generalize ((w.alloc (.cells (tbCells (.slice a t.held.length cap) (.slice a2 t.wait.length cap2)).toArray 25)).alloc (.cells (grCells g).toArray 29)) = w1 at *
  generalize w.heap.size + 1 = b2 at *
  have hnm : (t.wait.length : Int) ≤ 100000 := by have := HNw.out; omega
  have b0 : w1.cell? ⟨w.heap.size, 0, none⟩ = some (.slice a t.held.length cap) := (HS0.out).at 0 rfl 0 rfl
  have b1 : w1.cell? ⟨w.heap.size, 1, none⟩ = some (.slice a2 t.wait.length cap2) := (HS0.out).at 0 rfl 1 rfl
  have g0 : w1.cell? ⟨b2, 0, none⟩ = some (.int .i64 g.tx) := HS0.out.at 1 rfl 0 rfl
  have g1 : w1.cell? ⟨b2, 1, none⟩ = some (.int .i64 g.page) := HS0.out.at 1 rfl 1 rfl
  have g2 : w1.cell? ⟨b2, 2, none⟩ = some (.int .i64 g.slot) := HS0.out.at 1 rfl 2 rfl
  go_wp2_with fail
  refine (HMg.out _ HS0.out.old).mono ?_
  rintro e w2 ⟨rfl, hb⟩
  have HS1 := Lib.hid (HS0.out.calls hb)
  clear b0 b1 g0 g1 g2 HS0 hb HMg
  have b1 : w2.cell? ⟨w.heap.size, 1, none⟩ = some (.slice a2 t.wait.length cap2) := HS1.out.at 0 rfl 1 rfl
  by_cases hmg : mg = 0
  · obtain ⟨e1, n1⟩ := eq_facts hmg
    have HE : Hid (S = t.wait.length) := Lib.hid (by rw [HV.out, if_pos hmg])
    clear hmg
    go_wp2_with fail
    go_ret
    exact ⟨by rw [HE.out]; rfl, HS1.out.old⟩
  · obtain ⟨e1, n1⟩ := ne_facts hmg
    have HS2 : Hid (S = t.wait.findIdx (wantB t.held g)) := Lib.hid (by rw [HV.out, if_neg hmg])
    clear hmg
    go_wp2_with fail
    clear b1
    go_loopw [5] (fun iv wr => ∃ i : Nat, i ≤ t.wait.length ∧ iv = .int .i64 i ∧ (∀ q, q < i → ∀ z, t.wait[q]? = some z → wantB t.held g z = false) ∧ Hp w [.ob w.heap.size 25 (tbCells (.slice a t.held.length cap) (.slice a2 t.wait.length cap2)), .ob b2 29 (grCells g)] wr) (fun iv _ => t.wait.length - (intOf iv).toNat)
    case atStart => exact ⟨0, by omega, rfl, fun q h => absurd h (by omega), HS1.out⟩
    case round =>
      clear HS1
      obtain ⟨i, hi, rfl, hf, hs⟩ := hrel
      have HY := Lib.hid hs
      have HF := Lib.hid hf
      have b1 : wr.cell? ⟨w.heap.size, 1, none⟩ = some (.slice a2 t.wait.length cap2) := hs.at 0 rfl 1 rfl
      clear hs hf
      by_cases hlt : i < t.wait.length
      · obtain ⟨g1, off1, rfl, hrw⟩ := HT.out.2.base (by omega)
        have HRw := Lib.hid hrw
        obtain ⟨x, hx⟩ : ∃ x, t.wait[i]? = some x := ⟨_, List.getElem?_eq_getElem hlt⟩
        have HXi := Lib.hid hx
        have HGx := Lib.hid (HG.out.wait x (List.mem_of_getElem? hx))
        have hii : (i : Int) < (t.wait.length : Int) := by omega
        have hi0 : (0 : Int) ≤ (i : Int) := by omega
        have HLt := Lib.hid hlt
        have HMx : Hid (∀ W, Below w.heap.size w W → Calls Try.prog 38 #[.agg (tbCells (.slice a t.held.length cap) (.slice (some ⟨g1, off1, none⟩) t.wait.length cap2)).toArray, .int .i64 x.tx, .agg (lkCells x.lock).toArray] W fun e w' => e = .returned (.int .i64 (modeG t.held x)) ∧ Below W.heap.size W w') := fun W hb => HMo.out W hb x.tx x.lock HGx.out.lock
        have hqe : ∀ W, Sem.run Try.prog (binOp .eql 27 (.agg #[.int .i64 x.page, .int .i64 x.slot]) (.agg #[.int .i64 g.page, .int .i64 g.slot])) W = .ok (.bool (sameV x.lock g.lock)) W := fun W => run_eql (equal_lk x.lock g.lock HGx.out.lock HK.out.lock) W
        have hss : sameV x.lock g.lock = (decide (x.page = g.page) && decide (x.slot = g.slot)) := lock_same x g.lock
        have hwt : wantB t.held g x = ((decide (x.page = g.page) && decide (x.slot = g.slot)) && decide (modeG t.held x = 0)) := by unfold wantB; rw [Bool.and_assoc]
        have hNo : wantB t.held g x = false → ∀ q, q < i + 1 → ∀ z, t.wait[q]? = some z → wantB t.held g z = false := fun h q hq z hz => by
          rcases Nat.lt_or_ge q i with h3 | h3
          · exact HF.out q h3 z hz
          · obtain rfl : q = i := by omega
            rw [HXi.out] at hz
            rw [← Option.some.inj hz]; exact h
        have hYes : wantB t.held g x = true → S = i := fun h => by rw [HS2.out]; exact findIdx_first HF.out HXi.out h
        rw [← hss] at hwt
        have HNo := Lib.hid hNo
        have HYes := Lib.hid hYes
        clear hrw hx hi hlt hss hNo hYes HMo HF
        generalize modeG t.held x = mx at *
        generalize wantB t.held g x = wb at *
        generalize sameV x.lock g.lock = sl at *
        have HWt := Lib.hid hwt
        clear hwt
        go_upto_region 7 with (first | ((with_reducible refine wpList_load_at 29 (.tmp 27) g1 ((off1 + i * 4)) (grCells x) HUG.out ?_ ?_ ?_ ?_ ?_); (exact rfl); (exact (elem_rng (HRw.out _ (HR.out.below (HY.out).old)) HXi.out)); (exact rfl); (exact info_gr); simp only [Act.put, List.setIfInBounds_toArray, List.set_cons_zero, List.set_cons_succ]) | ((with_reducible refine wpList_alloc_ob 29 (grCells grNil) ?_ ?_); (exact alloc_gr); simp only [Act.put, List.setIfInBounds_toArray, List.set_cons_zero, List.set_cons_succ]) | ((with_reducible refine wpList_store_ob 29 (.tmp 6) (wr.heap.size) (grCells x) (grCells grNil) 29 ?_ ?_ ?_ ?_ ?_ ?_ ?_); (exact rfl); (exact rfl); (exact ((HY.out).put 29 (grCells grNil)).get 2 rfl); (exact info_gr); (exact rfl); (exact (oneCell_gr _)); skip))
        have HS41 : Hid (Hp w [.ob (w.heap.size) 25 (tbCells (.slice a t.held.length cap) (.slice (some ⟨g1, off1, none⟩) t.wait.length cap2)), .ob b2 29 (grCells g), .ob (wr.heap.size) 29 (grCells x)] ((wr.alloc (.cells (grCells grNil).toArray 29)).setRow (wr.heap.size) (grCells x).toArray)) := ((HY.out).put 29 (grCells grNil)).row 2 rfl (grCells x)
        clear HY
        generalize ((wr.alloc (.cells (grCells grNil).toArray 29)).setRow (wr.heap.size) (grCells x).toArray) = w41 at *
        generalize wr.heap.size = B1 at *
        clear b1
        have x0 : w41.cell? ⟨B1, 0, none⟩ = some (.int .i64 x.tx) := HS41.out.at 2 rfl 0 rfl
        have x1 : w41.cell? ⟨B1, 1, none⟩ = some (.int .i64 x.page) := HS41.out.at 2 rfl 1 rfl
        have x2 : w41.cell? ⟨B1, 2, none⟩ = some (.int .i64 x.slot) := HS41.out.at 2 rfl 2 rfl
        have y1 : w41.cell? ⟨b2, 1, none⟩ = some (.int .i64 g.page) := HS41.out.at 1 rfl 1 rfl
        have y2 : w41.cell? ⟨b2, 2, none⟩ = some (.int .i64 g.slot) := HS41.out.at 1 rfl 2 rfl
        have b0 : w41.cell? ⟨w.heap.size, 0, none⟩ = some (.slice a t.held.length cap) := HS41.out.at 0 rfl 0 rfl
        have b1 : w41.cell? ⟨w.heap.size, 1, none⟩ = some (.slice (some ⟨g1, off1, none⟩) t.wait.length cap2) := HS41.out.at 0 rfl 1 rfl
        cases sl
        case false =>
          have HN1 := Lib.hid (HNo.out (by rw [HWt.out]; rfl))
          clear HWt HYes HNo
          go_wp2_with fail
          have HY2 := Lib.hid (HS41.out.forget (L := [.ob w.heap.size 25 (tbCells (.slice a t.held.length cap) (.slice (some ⟨g1, off1, none⟩) t.wait.length cap2)), .ob b2 29 (grCells g)]) (M := [.ob B1 29 (grCells x)]))
          go_roundw
          case rel => exact ⟨i + 1, HLt.out, by go_num, HN1.out, HY2.out⟩
          case measure => simp [intOf]; try (have := HLt.out; omega)
        case true =>
          go_wp2_with fail
          refine (HMx.out _ HS41.out.old).mono ?_
          rintro e w9 ⟨rfl, hb⟩
          have HS9 := Lib.hid (HS41.out.calls hb)
          clear x0 x1 x2 y1 y2 b0 b1 HS41 hb
          by_cases hmx : mx = 0
          · obtain ⟨e3, n3⟩ := eq_facts hmx
            have HE := Lib.hid (HYes.out (by rw [HWt.out, decide_eq_true hmx]; rfl))
            clear hmx
            go_wp2_with fail
            go_ret
            exact ⟨by rw [HE.out]; rfl, HS9.out.old⟩
          · obtain ⟨e3, n3⟩ := ne_facts hmx
            have HN1 := Lib.hid (HNo.out (by rw [HWt.out, decide_eq_false hmx]; rfl))
            clear hmx
            go_wp2_with fail
            have HY2 := Lib.hid (HS9.out.forget (L := [.ob w.heap.size 25 (tbCells (.slice a t.held.length cap) (.slice (some ⟨g1, off1, none⟩) t.wait.length cap2)), .ob b2 29 (grCells g)]) (M := [.ob B1 29 (grCells x)]))
            go_roundw
            case rel => exact ⟨i + 1, HLt.out, by go_num, HN1.out, HY2.out⟩
            case measure => simp [intOf]; try (have := HLt.out; omega)
      · obtain rfl : i = t.wait.length := by omega
        have HE : Hid (S = t.wait.length) := Lib.hid (by rw [HS2.out]; exact findIdx_none HF.out)
        clear hlt hi HF
        go_wp2_with fail
        go_ret
        exact ⟨by rw [HE.out]; rfl, HY.out.old⟩
theorem neq_gr {a : Gr} (ha : GoodGr a) (W : World) : Sem.run Try.prog (binOp .neq 29 (.agg (grCells a).toArray) (.agg (grCells a).toArray)) W = .ok (.bool false) W := by
  have := run_neq (equal_gr a a ha ha) W
  rw [sameV_iff.2 rfl] at this
  exact this
set_option maxHeartbeats 8000000 in
theorem rsame_grs {v v' : Value} {l : List Gr} {R R' : List Rng} (w : World) (h : GrRd v l R) (hR : RdIn w R) (h' : GrRd v' l R') (hR' : RdIn w R') (hg : ∀ x ∈ l, GoodGr x) (hf : l.length ≤ 100000) :
    Calls Try.prog 48 #[v, v'] w fun e w' => e = .returned (.bool true) ∧ Below w.heap.size w w' := by
  have HGe := Lib.hid hg
  have HL := Lib.hid hf
  obtain ⟨a, cap, rfl, _, _, HPa⟩ := SlRd.open h hR
  obtain ⟨b, cap2, rfl, _, _, HPb⟩ := SlRd.open h' hR'
  obtain ⟨fsHUG, huHUG⟩ := under_gr
  have HUG := Lib.hid huHUG
  clear huHUG
  clear h hR h' hR' hg hf
  have HQ : Hid (Below w.heap.size w w) := Lib.hid (Below.refl _ _)
  go_enter Try.func48, Try.ntmps48
  go_wp2_with fail
  go_loopw [5] (fun si wr => ∃ i : Nat, i ≤ l.length ∧ si = .int .i64 i ∧ Below w.heap.size w wr) (fun si _ => l.length - (intOf si).toNat)
  case atStart => exact ⟨0, Nat.zero_le _, rfl, HQ.out⟩
  case round =>
    obtain ⟨i, hi, rfl, hs⟩ := hrel
    clear HQ
    have HQ := Lib.hid hs
    clear hs
    have hi0 : (0 : Int) ≤ (i : Int) := by omega
    have him : (i : Int) ≤ 100000 := by have := HL.out; omega
    by_cases hlt : i < l.length
    · have hii : (i : Int) < (l.length : Int) := by omega
      have HLt := Lib.hid hlt
      obtain ⟨g, og, rfl, hr⟩ := HPa.out (by omega)
      obtain ⟨g2, og2, rfl, hr2⟩ := HPb.out (by omega)
      obtain ⟨x, hx⟩ : ∃ x, l[i]? = some x := ⟨_, List.getElem?_eq_getElem hlt⟩
      have hxx := neq_gr (HGe.out x (List.mem_of_getElem? hx))
      simp only [grCells] at hxx
      have c0 : wr.cell? ⟨g, og + i * 4, none⟩ = some (.int .i64 x.tx) := hr wr HQ.out (i * 4 + 0) _ (grRow_at l i x hx 0 _ rfl)
      have c1 : wr.cell? ⟨g, og + i * 4 + 1, none⟩ = some (.int .i64 x.page) := hr wr HQ.out (i * 4 + 1) _ (grRow_at l i x hx 1 _ rfl)
      have c2 : wr.cell? ⟨g, og + i * 4 + 2, none⟩ = some (.int .i64 x.slot) := hr wr HQ.out (i * 4 + 2) _ (grRow_at l i x hx 2 _ rfl)
      have c3 : wr.cell? ⟨g, og + i * 4 + 3, none⟩ = some (.int .i64 x.mode) := hr wr HQ.out (i * 4 + 3) _ (grRow_at l i x hx 3 _ rfl)
      have d0 : wr.cell? ⟨g2, og2 + i * 4, none⟩ = some (.int .i64 x.tx) := hr2 wr HQ.out (i * 4 + 0) _ (grRow_at l i x hx 0 _ rfl)
      have d1 : wr.cell? ⟨g2, og2 + i * 4 + 1, none⟩ = some (.int .i64 x.page) := hr2 wr HQ.out (i * 4 + 1) _ (grRow_at l i x hx 1 _ rfl)
      have d2 : wr.cell? ⟨g2, og2 + i * 4 + 2, none⟩ = some (.int .i64 x.slot) := hr2 wr HQ.out (i * 4 + 2) _ (grRow_at l i x hx 2 _ rfl)
      have d3 : wr.cell? ⟨g2, og2 + i * 4 + 3, none⟩ = some (.int .i64 x.mode) := hr2 wr HQ.out (i * 4 + 3) _ (grRow_at l i x hx 3 _ rfl)
      clear hr hr2 hx hi hlt
      go_wp2_with fail
      go_quiet (fail)
      have HQ2 : Hid (Below w.heap.size w (wr.drewN nq)) := Lib.hid ⟨HQ.out.os, HQ.out.tape, HQ.out.output, HQ.out.size, HQ.out.block⟩
      clear HQ c0 c1 c2 c3 d0 d1 d2 d3
      generalize wr.drewN nq = w2 at *
      go_wp2_with fail
      go_roundw
      case rel => exact ⟨i + 1, HLt.out, by go_num, HQ2.out⟩
      case measure => simp [intOf]; try (have := HLt.out; omega)
    · have hii : ¬ (i : Int) < (l.length : Int) := by omega
      clear hlt hi
      go_wp2_with fail
      go_ret
      exact ⟨rfl, HQ.out⟩
set_option maxHeartbeats 8000000 in
theorem rSame_tb {h v h' v' : Value} {t : Tb} {R R' : List Rng} (w : World) (ht : TbRd h v t R) (hR : RdIn w R) (ht' : TbRd h' v' t R') (hR' : RdIn w R') (hg : GoodTb t) :
    Calls Try.prog 19 #[.agg (tbCells h v).toArray, .agg (tbCells h' v').toArray] w fun e w' => e = .returned (.bool true) ∧ Below w.heap.size w w' := by
  have HS1 : Hid (∀ W, Below w.heap.size w W → Calls Try.prog 48 #[h, h'] W fun e w' => e = .returned (.bool true) ∧ Below W.heap.size W w') := fun W hb => rsame_grs W ht.1 (hR.below hb) ht'.1 (hR'.below hb) hg.held hg.few.1
  have HS2 : Hid (∀ W, Below w.heap.size w W → Calls Try.prog 48 #[v, v'] W fun e w' => e = .returned (.bool true) ∧ Below W.heap.size W w') := fun W hb => rsame_grs W ht.2 (hR.below hb) ht'.2 (hR'.below hb) hg.wait hg.few.2
  obtain ⟨a, cap, rfl, _, _⟩ := ht.1.shape
  obtain ⟨a2, cap2, rfl, _, _⟩ := ht.2.shape
  obtain ⟨b, dap, rfl, _, _⟩ := ht'.1.shape
  obtain ⟨c2, dap2, rfl, _, _⟩ := ht'.2.shape
  have h1 := ((Hp.start w).put 25 (tbCells (.slice a t.held.length cap) (.slice a2 t.wait.length cap2))).put 25 (tbCells (.slice b t.held.length dap) (.slice c2 t.wait.length dap2))
  simp only [World.size_alloc, List.nil_append, List.cons_append] at h1
  have HS0 : Hid (Hp w [.ob w.heap.size 25 (tbCells (.slice a t.held.length cap) (.slice a2 t.wait.length cap2)), .ob (w.heap.size + 1) 25 (tbCells (.slice b t.held.length dap) (.slice c2 t.wait.length dap2))] ((w.alloc (.cells (tbCells (.slice a t.held.length cap) (.slice a2 t.wait.length cap2)).toArray 25)).alloc (.cells (tbCells (.slice b t.held.length dap) (.slice c2 t.wait.length dap2)).toArray 25))) := h1
  clear h1 ht hR ht' hR' hg
  go_enter Try.func19, Try.ntmps19
  go_upto_region 1 with (fail)
  generalize ((w.alloc (.cells (tbCells (.slice a t.held.length cap) (.slice a2 t.wait.length cap2)).toArray 25)).alloc (.cells (tbCells (.slice b t.held.length dap) (.slice c2 t.wait.length dap2)).toArray 25)) = w1 at *
  generalize w.heap.size + 1 = b2 at *
  have a0 := HS0.out.at 0 rfl 0 rfl
  have a1 := HS0.out.at 0 rfl 1 rfl
  have d0 := HS0.out.at 1 rfl 0 rfl
  have d1 := HS0.out.at 1 rfl 1 rfl
  go_wp2_with fail
  refine (HS1.out _ HS0.out.old).mono ?_
  rintro e w4 ⟨rfl, hb⟩
  have HS3 := Lib.hid (HS0.out.calls hb)
  clear hb a0 a1 d0 d1 HS0
  have a0 := HS3.out.at 0 rfl 0 rfl
  have a1 := HS3.out.at 0 rfl 1 rfl
  have d0 := HS3.out.at 1 rfl 0 rfl
  have d1 := HS3.out.at 1 rfl 1 rfl
  go_wp2_with fail
  refine (HS2.out _ HS3.out.old).mono ?_
  rintro e w5 ⟨rfl, hb⟩
  have HS4 := Lib.hid (HS3.out.calls hb)
  clear hb a0 a1 d0 d1 HS3
  go_wp2_with fail
  go_ret
  exact ⟨rfl, HS4.out.old⟩
end Go.Proofs.Ytcnaalbpbalgdaa
/- the reference's Cancel, Drop and Release -/
namespace Go.Proofs.Ytcnaalbpbalgdaa
open Go.RowKit
open Go.Act renaming put → z0
open List renaming setIfInBounds_toArray → z1, set_cons_zero → z2, set_cons_succ → z3
set_option maxRecDepth 20000
set_option linter.unusedSimpArgs false
set_option linter.unusedVariables false

theorem build_tb2 (a b : Option Addr) (n c m d : Nat) (W : World) : Sem.run Try.prog (Instr.build 25 #[(0, .slice a n c), (1, .slice b m d)]) W = .ok (.agg (tbCells (.slice a n c) (.slice b m d)).toArray) W := by kernel_rfl
abbrev qRfLk8_0 : Oper := { dst := some 9, op := Op.fieldAddr 25 (Operand.tmp 2) 0, type := 0, pos := "ref.go:189", after := #[], guard := none }
abbrev qRfLk8_1 : Oper := { dst := some 10, op := Op.load 23 (Operand.tmp 9), type := 23, pos := "ref.go:189", after := #[{ on := 0, ground := Ground.data }], guard := none }
abbrev qRfLk8_2 : Oper := { dst := some 11, op := Op.fieldAddr 25 (Operand.tmp 2) 1, type := 0, pos := "ref.go:189", after := #[], guard := none }
abbrev qRfLk8_3 : Oper := { dst := some 12, op := Op.load 23 (Operand.tmp 11), type := 23, pos := "ref.go:189", after := #[{ on := 2, ground := Ground.data }], guard := none }
abbrev qRfLk8_4 : Oper := { dst := some 13, op := Op.move (Operand.tmp 1), type := 3, pos := "ref.go:189", after := #[], guard := none }
abbrev qRfLk8_5 : Oper := { dst := some 14, op := Op.build 27 #[], type := 27, pos := "ref.go:189", after := #[], guard := none }
abbrev qRfLk8_6 : Oper := { dst := some 15, op := Op.call { callee := Callee.value (Operand.func 51), args := #[Operand.tmp 12, Operand.tmp 13, Operand.const (Value.bool false), Operand.tmp 14], argTypes := #[23, 3, 4, 27] }, type := 23, pos := "ref.go:189", after := #[{ on := 3, ground := Ground.data }, { on := 4, ground := Ground.data }, { on := 5, ground := Ground.data }], guard := none }
abbrev qRfLk8_7 : Oper := { dst := some 16, op := Op.build 25 #[(0, Operand.tmp 10), (1, Operand.tmp 15)], type := 25, pos := "ref.go:189", after := #[{ on := 1, ground := Ground.data }, { on := 6, ground := Ground.data }], guard := none }
abbrev qRfLk8_8 : Oper := { dst := some 17, op := Op.call { callee := Callee.value (Operand.func 47), args := #[Operand.tmp 16], argTypes := #[25] }, type := 25, pos := "ref.go:189", after := #[{ on := 7, ground := Ground.data }, { on := 6, ground := Ground.chain }], guard := none }
abbrev qRfLk8_9 : Oper := { dst := none, op := Op.store 25 (Operand.tmp 4) (Operand.tmp 17), type := 0, pos := "ref.go:189", after := #[{ on := 8, ground := Ground.data }, { on := 8, ground := Ground.chain }, { on := 0, ground := Ground.phase }, { on := 1, ground := Ground.phase }, { on := 2, ground := Ground.phase }, { on := 3, ground := Ground.phase }, { on := 4, ground := Ground.phase }, { on := 5, ground := Ground.phase }, { on := 6, ground := Ground.phase }, { on := 7, ground := Ground.phase }, { on := 8, ground := Ground.phase }], guard := none }
abbrev qRfLk8_10 : Oper := { dst := some 11, op := Op.fieldAddr 25 (Operand.tmp 3) 0, type := 0, pos := "ref.go:197", after := #[], guard := none }
abbrev qRfLk8_11 : Oper := { dst := some 12, op := Op.load 23 (Operand.tmp 11), type := 23, pos := "ref.go:197", after := #[{ on := 0, ground := Ground.data }], guard := none }
abbrev qRfLk8_12 : Oper := { dst := some 13, op := Op.move (Operand.tmp 1), type := 3, pos := "ref.go:197", after := #[], guard := none }
abbrev qRfLk8_13 : Oper := { dst := some 14, op := Op.load 27 (Operand.tmp 5), type := 27, pos := "ref.go:197", after := #[], guard := none }
abbrev qRfLk8_14 : Oper := { dst := some 16, op := Op.fieldAddr 25 (Operand.tmp 3) 1, type := 0, pos := "ref.go:197", after := #[], guard := none }
abbrev qRfLk8_15 : Oper := { dst := some 17, op := Op.load 23 (Operand.tmp 16), type := 23, pos := "ref.go:197", after := #[{ on := 5, ground := Ground.data }], guard := none }
abbrev qRfLk8_16 : Oper := { dst := some 15, op := Op.call { callee := Callee.value (Operand.func 51), args := #[Operand.tmp 12, Operand.tmp 13, Operand.const (Value.bool true), Operand.tmp 14], argTypes := #[23, 3, 4, 27] }, type := 23, pos := "ref.go:197", after := #[{ on := 1, ground := Ground.data }, { on := 2, ground := Ground.data }, { on := 3, ground := Ground.data }], guard := none }
abbrev qRfLk8_17 : Oper := { dst := some 18, op := Op.build 25 #[(0, Operand.tmp 15), (1, Operand.tmp 17)], type := 25, pos := "ref.go:197", after := #[{ on := 4, ground := Ground.data }, { on := 6, ground := Ground.data }], guard := none }
abbrev qRfLk8_18 : Oper := { dst := some 19, op := Op.call { callee := Callee.value (Operand.func 47), args := #[Operand.tmp 18], argTypes := #[25] }, type := 25, pos := "ref.go:197", after := #[{ on := 7, ground := Ground.data }, { on := 4, ground := Ground.chain }], guard := none }
abbrev qRfLk8_19 : Oper := { dst := none, op := Op.store 25 (Operand.tmp 6) (Operand.tmp 19), type := 0, pos := "ref.go:197", after := #[{ on := 8, ground := Ground.data }, { on := 8, ground := Ground.chain }, { on := 0, ground := Ground.phase }, { on := 1, ground := Ground.phase }, { on := 2, ground := Ground.phase }, { on := 3, ground := Ground.phase }, { on := 4, ground := Ground.phase }, { on := 5, ground := Ground.phase }, { on := 6, ground := Ground.phase }, { on := 7, ground := Ground.phase }, { on := 8, ground := Ground.phase }], guard := none }
abbrev qRfLk8_20 : Oper := { dst := some 9, op := Op.fieldAddr 25 (Operand.tmp 2) 0, type := 0, pos := "ref.go:205", after := #[], guard := none }
abbrev qRfLk8_21 : Oper := { dst := some 10, op := Op.load 23 (Operand.tmp 9), type := 23, pos := "ref.go:205", after := #[{ on := 0, ground := Ground.data }], guard := none }
abbrev qRfLk8_22 : Oper := { dst := some 11, op := Op.move (Operand.tmp 1), type := 3, pos := "ref.go:205", after := #[], guard := none }
abbrev qRfLk8_23 : Oper := { dst := some 12, op := Op.build 27 #[], type := 27, pos := "ref.go:205", after := #[], guard := none }
abbrev qRfLk8_24 : Oper := { dst := some 14, op := Op.fieldAddr 25 (Operand.tmp 2) 1, type := 0, pos := "ref.go:205", after := #[], guard := none }
abbrev qRfLk8_25 : Oper := { dst := some 15, op := Op.load 23 (Operand.tmp 14), type := 23, pos := "ref.go:205", after := #[{ on := 5, ground := Ground.data }], guard := none }
abbrev qRfLk8_26 : Oper := { dst := some 16, op := Op.move (Operand.tmp 1), type := 3, pos := "ref.go:205", after := #[], guard := none }
abbrev qRfLk8_27 : Oper := { dst := some 17, op := Op.build 27 #[], type := 27, pos := "ref.go:205", after := #[], guard := none }
abbrev qRfLk8_28 : Oper := { dst := some 13, op := Op.call { callee := Callee.value (Operand.func 51), args := #[Operand.tmp 10, Operand.tmp 11, Operand.const (Value.bool false), Operand.tmp 12], argTypes := #[23, 3, 4, 27] }, type := 23, pos := "ref.go:205", after := #[{ on := 1, ground := Ground.data }, { on := 2, ground := Ground.data }, { on := 3, ground := Ground.data }], guard := none }
abbrev qRfLk8_29 : Oper := { dst := some 18, op := Op.call { callee := Callee.value (Operand.func 51), args := #[Operand.tmp 15, Operand.tmp 16, Operand.const (Value.bool false), Operand.tmp 17], argTypes := #[23, 3, 4, 27] }, type := 23, pos := "ref.go:205", after := #[{ on := 6, ground := Ground.data }, { on := 7, ground := Ground.data }, { on := 8, ground := Ground.data }, { on := 4, ground := Ground.chain }], guard := none }
abbrev qRfLk8_30 : Oper := { dst := some 19, op := Op.build 25 #[(0, Operand.tmp 13), (1, Operand.tmp 18)], type := 25, pos := "ref.go:205", after := #[{ on := 4, ground := Ground.data }, { on := 9, ground := Ground.data }], guard := none }
abbrev qRfLk8_31 : Oper := { dst := some 20, op := Op.call { callee := Callee.value (Operand.func 47), args := #[Operand.tmp 19], argTypes := #[25] }, type := 25, pos := "ref.go:205", after := #[{ on := 10, ground := Ground.data }, { on := 9, ground := Ground.chain }], guard := none }
abbrev qRfLk8_32 : Oper := { dst := none, op := Op.store 25 (Operand.tmp 4) (Operand.tmp 20), type := 0, pos := "ref.go:205", after := #[{ on := 11, ground := Ground.data }, { on := 11, ground := Ground.chain }, { on := 0, ground := Ground.phase }, { on := 1, ground := Ground.phase }, { on := 2, ground := Ground.phase }, { on := 3, ground := Ground.phase }, { on := 4, ground := Ground.phase }, { on := 5, ground := Ground.phase }, { on := 6, ground := Ground.phase }, { on := 7, ground := Ground.phase }, { on := 8, ground := Ground.phase }, { on := 9, ground := Ground.phase }, { on := 10, ground := Ground.phase }, { on := 11, ground := Ground.phase }], guard := none }
set_option maxHeartbeats 8000000 in
theorem rcancel_any {h v : Value} {t : Tb} {R : List Rng} (tx : Int) (w : World) (ht : TbRd h v t R) (hR : RdIn w R) (hg : GoodTb t) :
  Calls Try.prog 27 #[.agg (tbCells h v).toArray, .int .i64 tx] w (TbPost w R (cancelR t tx)) := by
 obtain ⟨a, cap, rfl, hnc, hcm⟩ := ht.1.shape
 obtain ⟨a2, cap2, rfl, hnc2, hcm2⟩ := ht.2.shape
 have HT := Lib.hid ht
 have HR := Lib.hid hR
 have HVa : Hid (∀ W, Below w.heap.size w W → Calls Try.prog 13 #[.agg (tbCells (.slice a t.held.length cap) (.slice a2 t.wait.length cap2)).toArray] W fun e w' => e = .returned (.bool (tbOkB t)) ∧ Below W.heap.size W w') := fun W hb => rlkvalid_any W ht (hR.below hb) hg
 have HLw : Hid (∀ W, Below w.heap.size w W → Calls Try.prog 51 #[.slice a2 t.wait.length cap2, .int .i64 tx, .bool false, .agg (lkCells lkNil).toArray] W (GrPost W (leftTx t.wait tx))) := fun W hb => by rw [← left_all t.wait tx 0 0]; exact rleft_any tx false lkNil W ht.2 (hR.below hb) hg.wait hg.few.2 ⟨by decide, by decide⟩
 have HV : Hid (cancelR t tx = if tbOkB t = true then settleR ⟨t.held, leftTx t.wait tx⟩ else t) := rfl
 have HSe : Hid (tbOkB t = true → ∀ W {h v : Value} {Q : List Rng}, TbRd h v ⟨t.held, leftTx t.wait tx⟩ Q → RdIn W Q → Calls Try.prog 47 #[.agg (tbCells h v).toArray] W (TbPost W Q (settleR ⟨t.held, leftTx t.wait tx⟩))) := fun hk W h v Q h1 h2 => rsettle_any W h1 h2 (cancel_in (tbOkB_iff.1 hk) tx) (by have h1 := (tbOkB_iff.1 hk).few; have h2 := leftTx_len t.wait tx; show t.held.length + (leftTx t.wait tx).length ≤ 2000; omega)
 clear ht hR hg
 have h1 := ((((Hp.startrd w R HR.out).put 25 (tbCells (.slice a t.held.length cap) (.slice a2 t.wait.length cap2)))).put 25 (tbCells (.slice none 0 0) (.slice none 0 0)))
 simp only [World.size_alloc, List.nil_append, List.cons_append] at h1
 have h2 := h1.pull [1, 2, 0] (M := [.ob w.heap.size 25 (tbCells (.slice a t.held.length cap) (.slice a2 t.wait.length cap2)), .ob (w.heap.size + 1) 25 (tbCells (.slice none 0 0) (.slice none 0 0)), .rd R]) rfl (pull_nd h1.nd [1, 2, 0] rfl (by decide))
 have HS0 : Hid (Hp w [.ob w.heap.size 25 (tbCells (.slice a t.held.length cap) (.slice a2 t.wait.length cap2)), .ob (w.heap.size + 1) 25 (tbCells (.slice none 0 0) (.slice none 0 0)), .rd R] ((w.alloc (.cells (tbCells (.slice a t.held.length cap) (.slice a2 t.wait.length cap2)).toArray 25)).alloc (.cells #[.slice none 0 0, .slice none 0 0] 25))) := h2
 clear h1 h2
 obtain ⟨fsHUG, huHUG⟩ := under_gr
 have HUG := Lib.hid huHUG
 clear huHUG
 obtain ⟨fsHUK, huHUK⟩ := under_lk
 have HUK := Lib.hid huHUK
 clear huHUK
 obtain ⟨fsHUT, huHUT⟩ := under_tb
 have HUT := Lib.hid huHUT
 clear huHUT
 generalize tbOkB t = ok at *
 go_enter Try.func27, Try.ntmps27
 go_upto_region 1 with (fail)
 generalize ((w.alloc (.cells (tbCells (.slice a t.held.length cap) (.slice a2 t.wait.length cap2)).toArray 25)).alloc (.cells #[.slice none 0 0, .slice none 0 0] 25)) = w1 at *
 generalize (w.heap.size + 1) = b2 at *
 have b0 : w1.cell? ⟨w.heap.size, 0, none⟩ = some (.slice a t.held.length cap) := HS0.out.at 0 rfl 0 rfl
 have b1 : w1.cell? ⟨w.heap.size, 1, none⟩ = some (.slice a2 t.wait.length cap2) := HS0.out.at 0 rfl 1 rfl
 go_wp2_with fail
 refine (HVa.out _ HS0.out.old).mono ?_
 rintro e w2 ⟨rfl, hb⟩
 have HS1 := Lib.hid (HS0.out.calls hb)
 clear b0 b1 HS0 hb HVa
 cases ok
 ·have HE : Hid (cancelR t tx = t) := Lib.hid (by rw [HV.out]; rfl)
  go_wp2_with (first | ((with_reducible refine wpList_load_ob 25 (.tmp 2) (w.heap.size) (tbCells (.slice a t.held.length cap) (.slice a2 t.wait.length cap2)) 25 HUT.out ?_ ?_ ?_ ?_ ?_); (exact rfl); (exact (HS1.out).get 0 rfl); (exact rfl); (exact info_tb); simp only [Act.put, List.setIfInBounds_toArray, List.set_cons_zero, List.set_cons_succ]) | ((with_reducible refine wpList_store_ob 25 (.tmp 4) b2 (tbCells (.slice a t.held.length cap) (.slice a2 t.wait.length cap2)) (tbCells (.slice none 0 0) (.slice none 0 0)) 25 ?_ ?_ ?_ ?_ ?_ ?_ ?_); (exact rfl); (exact rfl); (exact (HS1.out).get 1 rfl); (exact info_tb); (exact rfl); (exact (oneCell_tb _ _ _ _ _ _)); skip))
  have HS41 : Hid (Hp w [.ob (w.heap.size) 25 (tbCells (.slice a t.held.length cap) (.slice a2 t.wait.length cap2)), .ob b2 25 (tbCells (.slice a t.held.length cap) (.slice a2 t.wait.length cap2)), .rd R] (w2.setRow b2 (tbCells (.slice a t.held.length cap) (.slice a2 t.wait.length cap2)).toArray)) := (HS1.out).row 1 rfl (tbCells (.slice a t.held.length cap) (.slice a2 t.wait.length cap2))
  clear HS1
  generalize (w2.setRow b2 (tbCells (.slice a t.held.length cap) (.slice a2 t.wait.length cap2)).toArray) = w41 at *
  refine bodyPost_ret (results_ob Try.results27 _ _ b2 (tbCells (.slice a t.held.length cap) (.slice a2 t.wait.length cap2)) 25 _ rfl ((HS41.out).get 1 rfl) HUT.out rfl info_tb) rfl ?_
  rw [HE.out]
  exact ⟨_, _, R, rfl, HT.out, (HS41.out).reads 2 rfl, fun r hr => .inr (List.mem_map.2 ⟨r, hr, rfl⟩), (HS41.out).old⟩
 ·have HE : Hid (cancelR t tx = settleR ⟨t.held, leftTx t.wait tx⟩) := Lib.hid (by rw [HV.out]; first | rfl | simp)
  have HSt := Lib.hid (HSe.out (by first | trivial | rfl))
  clear HSe HV
  go_wp2_with fail
  refine wp_region_held_drew (S := fun w' => w'.rangeAt w.heap.size 0 (tbCells (.slice a t.held.length cap) (.slice a2 t.wait.length cap2))) (by kernel_rfl) ((fun j v hv => by rw [Nat.zero_add]; exact ((HS1.out).drew).at 0 rfl j hv)) (fun hHeld => ?_)
  refine tk 0 qRfLk8_0 (some 9) (v := ?q101v) (Or.inl ⟨by rfl, ?q101h⟩) hHeld ?q101r
  case q101h => (intro wq hSw; clear hSw; go_simp; try with_reducible rfl)
  try simp only [z0, z1, z2, z3]
  refine tk 1 qRfLk8_1 (some 10) (v := .slice a t.held.length cap) (Or.inl ⟨by rfl, ?q102h⟩) hHeld ?q102r
  case q102h => (intro wq hSw; have lq := (hSw) 0 (.slice a t.held.length cap) rfl; simp only [Nat.zero_add] at lq; clear hSw; go_simp; try with_reducible rfl)
  try simp only [z0, z1, z2, z3]
  refine tk 2 qRfLk8_2 (some 11) (v := ?q103v) (Or.inl ⟨by rfl, ?q103h⟩) hHeld ?q103r
  case q103h => (intro wq hSw; clear hSw; go_simp; try with_reducible rfl)
  try simp only [z0, z1, z2, z3]
  refine tk 3 qRfLk8_3 (some 12) (v := .slice a2 t.wait.length cap2) (Or.inl ⟨by rfl, ?q104h⟩) hHeld ?q104r
  case q104h => (intro wq hSw; have lq := (hSw) 1 (.slice a2 t.wait.length cap2) rfl; simp only [Nat.zero_add] at lq; clear hSw; go_simp; try with_reducible rfl)
  try simp only [z0, z1, z2, z3]
  refine tk 4 qRfLk8_4 (some 13) (v := ?q105v) (Or.inl ⟨by rfl, ?q105h⟩) hHeld ?q105r
  case q105h => (intro wq hSw; clear hSw; go_simp; try with_reducible rfl)
  try simp only [z0, z1, z2, z3]
  refine tk 5 qRfLk8_5 (some 14) (yieldsIf_build_v (by rfl) 27 (.agg (lkCells lkNil).toArray) rfl (fun W => by simp only [List.map_toArray, List.map_cons, List.map_nil]; exact build_lk0 W)) hHeld ?_
  try simp only [z0, z1, z2, z3]
  refine tn 6 qRfLk8_6 (fun K hK => ?_)
  go_simp
  go_wp2_with (go_at_call 51; refine (HLw.out _ ((HS1.out).drew).old).mono ?_; rintro e w61 ⟨vh, R2, rfl, hrd2, hin2, hnew2, hb⟩)
  have hnew3 : ∀ r ∈ R2, w.heap.size ≤ r.1 := fun r hr => Nat.le_trans ((HS1.out).drew).old.size (hnew2 r hr)
  obtain ⟨a3, c3, rfl, hc3, hm3⟩ := hrd2.shape
  have H2 := Lib.hid hrd2
  have N2 := Lib.hid hnew3
  have HS61 : Hid (Hp w [.ob (w.heap.size) 25 (tbCells (.slice a t.held.length cap) (.slice a2 t.wait.length cap2)), .ob b2 25 (tbCells (.slice none 0 0) (.slice none 0 0)), .rd R, .rd R2] w61) := ((HS1.out).drew).addrd hb R2 hin2 (fun r hr => .inl (hnew2 r hr))
  refine hK.out _ _ ((fun j v hv => by rw [Nat.zero_add]; exact (HS61.out).at 0 rfl j hv)) (fun hHeld => ?_)
  clear hK K hb hin2 hrd2 hnew2 hnew3
  try simp only [z0, z1, z2, z3]
  refine tk 7 qRfLk8_7 (some 16) (yieldsIf_build_v (by rfl) 25 (.agg (tbCells (.slice a t.held.length cap) (.slice a3 (leftTx t.wait tx).length c3)).toArray) rfl (fun W => by simp only [List.map_toArray, List.map_cons, List.map_nil]; exact build_tb2 _ _ _ _ _ _ W)) hHeld ?_
  try simp only [z0, z1, z2, z3]
  refine tn 8 qRfLk8_8 (fun K hK => ?_)
  go_simp
  go_wp2_with (go_at_call 47; refine (HSt.out _ (Q := R ++ R2) ⟨SlRd.mono HT.out.1 (fun r hr => by simp [hr]), SlRd.mono H2.out (fun r hr => by simp [hr])⟩ (RdIn.append ((HS61.out).reads 2 rfl) ((HS61.out).reads 3 rfl))).mono ?_; rintro e w62 ⟨h9, v9, R9, rfl, hrd2, hin2, hnew2, hb⟩)
  have hnew3 : ∀ r ∈ R9, w.heap.size ≤ r.1 ∨ r.1 ∈ R.map (·.1) := fun r hr => by
   rcases hnew2 r hr with h | h
   ·exact .inl (Nat.le_trans (HS61.out).old.size h)
   ·obtain ⟨q, hq, hqe⟩ := List.mem_map.1 h
    rw [← hqe]
    rcases List.mem_append.1 hq with hq | hq
    ·exact .inr (List.mem_map.2 ⟨q, hq, rfl⟩)
    ·exact .inl (N2.out q hq)
  obtain ⟨a9, c9, rfl, _, _⟩ := hrd2.1.shape
  obtain ⟨d9, e9, rfl, _, _⟩ := hrd2.2.shape
  have H9 := Lib.hid hrd2
  have N9 := Lib.hid hnew3
  have HS62 : Hid (Hp w [.ob (w.heap.size) 25 (tbCells (.slice a t.held.length cap) (.slice a2 t.wait.length cap2)), .ob b2 25 (tbCells (.slice none 0 0) (.slice none 0 0)), .rd R, .rd R2, .rd R9] w62) := (HS61.out).addrd hb R9 hin2 (fun r hr => (hnew2 r hr).elim .inl (fun h => .inr (by obtain ⟨q, hq, hqe⟩ := List.mem_map.1 h; rcases List.mem_append.1 hq with hq | hq; exact ⟨.rd R, List.mem_of_getElem? (i := 2) rfl, List.mem_map.2 ⟨q, hq, hqe⟩⟩; exact ⟨.rd R2, List.mem_of_getElem? (i := 3) rfl, List.mem_map.2 ⟨q, hq, hqe⟩⟩)))
  refine hK.out _ _ ((fun j v hv => by rw [Nat.zero_add]; exact (HS62.out).at 0 rfl j hv)) (fun hHeld => ?_)
  clear hK K hb hin2 hrd2 hnew2 hnew3
  try simp only [z0, z1, z2, z3]
  refine tn 9 qRfLk8_9 (fun K hK => ?_)
  rw [if_pos (by rfl)]
  refine wp_store_ob 25 (.tmp 4) (.tmp 17) b2 (tbCells (.slice a9 (settleR ⟨t.held, leftTx t.wait tx⟩).held.length c9) (.slice d9 (settleR ⟨t.held, leftTx t.wait tx⟩).wait.length e9)) (tbCells (.slice none 0 0) (.slice none 0 0)) 25 rfl rfl rfl rfl ((HS62.out).get 1 rfl) (info_tb) (rfl) ((oneCell_tb _ _ _ _ _ _)) ?_
  have HS63 : Hid (Hp w [.ob (w.heap.size) 25 (tbCells (.slice a t.held.length cap) (.slice a2 t.wait.length cap2)), .ob b2 25 (tbCells (.slice a9 (settleR ⟨t.held, leftTx t.wait tx⟩).held.length c9) (.slice d9 (settleR ⟨t.held, leftTx t.wait tx⟩).wait.length e9)), .rd R, .rd R2, .rd R9] (w62.setRow b2 (tbCells (.slice a9 (settleR ⟨t.held, leftTx t.wait tx⟩).held.length c9) (.slice d9 (settleR ⟨t.held, leftTx t.wait tx⟩).wait.length e9)).toArray)) := (HS62.out).row 1 rfl (tbCells (.slice a9 (settleR ⟨t.held, leftTx t.wait tx⟩).held.length c9) (.slice d9 (settleR ⟨t.held, leftTx t.wait tx⟩).wait.length e9))
  refine hK.out _ _ ((fun j v hv => by rw [Nat.zero_add]; exact (HS63.out).at 0 rfl j hv)) (fun hHeld => ?_)
  clear hK K
  generalize (w62.setRow b2 (tbCells (.slice a9 (settleR ⟨t.held, leftTx t.wait tx⟩).held.length c9) (.slice d9 (settleR ⟨t.held, leftTx t.wait tx⟩).wait.length e9)).toArray) = w63 at *
  try simp only [z0, z1, z2, z3]
  refine wpAnyH_done (by kernel_rfl) ?_ _
  clear hHeld
  go_wp2_with fail
  refine bodyPost_ret (results_ob Try.results27 _ _ b2 (tbCells (.slice a9 (settleR ⟨t.held, leftTx t.wait tx⟩).held.length c9) (.slice d9 (settleR ⟨t.held, leftTx t.wait tx⟩).wait.length e9)) 25 _ rfl ((HS63.out).get 1 rfl) HUT.out rfl info_tb) rfl ?_
  rw [HE.out]
  exact ⟨_, _, R9, rfl, H9.out, (HS63.out).reads 4 rfl, N9.out, (HS63.out).old⟩
set_option maxHeartbeats 8000000 in
theorem rdrop_any {h v : Value} {t : Tb} {R : List Rng} (tx : Int) (k : Lok) (w : World) (ht : TbRd h v t R) (hR : RdIn w R) (hg : GoodTb t) (hk : GoodLk k) :
  Calls Try.prog 23 #[.agg (tbCells h v).toArray, .int .i64 tx, .agg (lkCells k).toArray] w (TbPost w R (dropR t tx k.page k.slot)) := by
 obtain ⟨a, cap, rfl, hnc, hcm⟩ := ht.1.shape
 obtain ⟨a2, cap2, rfl, hnc2, hcm2⟩ := ht.2.shape
 have HT := Lib.hid ht
 have HR := Lib.hid hR
 have HVa : Hid (∀ W, Below w.heap.size w W → Calls Try.prog 13 #[.agg (tbCells (.slice a t.held.length cap) (.slice a2 t.wait.length cap2)).toArray] W fun e w' => e = .returned (.bool (tbOkB t)) ∧ Below W.heap.size W w') := fun W hb => rlkvalid_any W ht (hR.below hb) hg
 have HLf : Hid (∀ W, Below w.heap.size w W → Calls Try.prog 51 #[.slice a t.held.length cap, .int .i64 tx, .bool true, .agg (lkCells k).toArray] W (GrPost W (leftKey t.held tx k.page k.slot))) := fun W hb => by rw [← left_one t.held tx k.page k.slot]; exact rleft_any tx true k W ht.1 (hR.below hb) hg.held hg.few.1 hk
 have HV : Hid (dropR t tx k.page k.slot = if tbOkB t = true then settleR ⟨leftKey t.held tx k.page k.slot, t.wait⟩ else t) := rfl
 have HSe : Hid (tbOkB t = true → ∀ W {h v : Value} {Q : List Rng}, TbRd h v ⟨leftKey t.held tx k.page k.slot, t.wait⟩ Q → RdIn W Q → Calls Try.prog 47 #[.agg (tbCells h v).toArray] W (TbPost W Q (settleR ⟨leftKey t.held tx k.page k.slot, t.wait⟩))) := fun hk W h v Q h1 h2 => rsettle_any W h1 h2 (drop_in (tbOkB_iff.1 hk) tx k.page k.slot) (by have h1 := (tbOkB_iff.1 hk).few; have h2 := leftKey_len t.held tx k.page k.slot; show (leftKey t.held tx k.page k.slot).length + t.wait.length ≤ 2000; omega)
 clear ht hR hg hk
 have h1 := ((((Hp.startrd w R HR.out).put 25 (tbCells (.slice a t.held.length cap) (.slice a2 t.wait.length cap2))).put 27 (lkCells k)).put 25 (tbCells (.slice none 0 0) (.slice none 0 0)))
 simp only [World.size_alloc, List.nil_append, List.cons_append] at h1
 have h2 := h1.pull [1, 2, 3, 0] (M := [.ob w.heap.size 25 (tbCells (.slice a t.held.length cap) (.slice a2 t.wait.length cap2)), .ob (w.heap.size + 1) 27 (lkCells k), .ob (w.heap.size + 1 + 1) 25 (tbCells (.slice none 0 0) (.slice none 0 0)), .rd R]) rfl (pull_nd h1.nd [1, 2, 3, 0] rfl (by decide))
 have HS0 : Hid (Hp w [.ob w.heap.size 25 (tbCells (.slice a t.held.length cap) (.slice a2 t.wait.length cap2)), .ob (w.heap.size + 1) 27 (lkCells k), .ob (w.heap.size + 1 + 1) 25 (tbCells (.slice none 0 0) (.slice none 0 0)), .rd R] (((w.alloc (.cells (tbCells (.slice a t.held.length cap) (.slice a2 t.wait.length cap2)).toArray 25)).alloc (.cells (lkCells k).toArray 27)).alloc (.cells #[.slice none 0 0, .slice none 0 0] 25))) := h2
 clear h1 h2
 obtain ⟨fsHUG, huHUG⟩ := under_gr
 have HUG := Lib.hid huHUG
 clear huHUG
 obtain ⟨fsHUK, huHUK⟩ := under_lk
 have HUK := Lib.hid huHUK
 clear huHUK
 obtain ⟨fsHUT, huHUT⟩ := under_tb
 have HUT := Lib.hid huHUT
 clear huHUT
 generalize tbOkB t = ok at *
 go_enter Try.func23, Try.ntmps23
 go_upto_region 1 with (fail)
 generalize (((w.alloc (.cells (tbCells (.slice a t.held.length cap) (.slice a2 t.wait.length cap2)).toArray 25)).alloc (.cells (lkCells k).toArray 27)).alloc (.cells #[.slice none 0 0, .slice none 0 0] 25)) = w1 at *
 generalize (w.heap.size + 1 + 1) = b2 at *
 generalize w.heap.size + 1 = b1k at *
 have b0 : w1.cell? ⟨w.heap.size, 0, none⟩ = some (.slice a t.held.length cap) := HS0.out.at 0 rfl 0 rfl
 have b1 : w1.cell? ⟨w.heap.size, 1, none⟩ = some (.slice a2 t.wait.length cap2) := HS0.out.at 0 rfl 1 rfl
 go_wp2_with fail
 refine (HVa.out _ HS0.out.old).mono ?_
 rintro e w2 ⟨rfl, hb⟩
 have HS1 := Lib.hid (HS0.out.calls hb)
 clear b0 b1 HS0 hb HVa
 cases ok
 ·have HE : Hid (dropR t tx k.page k.slot = t) := Lib.hid (by rw [HV.out]; rfl)
  go_wp2_with (first | ((with_reducible refine wpList_load_ob 25 (.tmp 3) (w.heap.size) (tbCells (.slice a t.held.length cap) (.slice a2 t.wait.length cap2)) 25 HUT.out ?_ ?_ ?_ ?_ ?_); (exact rfl); (exact (HS1.out).get 0 rfl); (exact rfl); (exact info_tb); simp only [Act.put, List.setIfInBounds_toArray, List.set_cons_zero, List.set_cons_succ]) | ((with_reducible refine wpList_store_ob 25 (.tmp 6) b2 (tbCells (.slice a t.held.length cap) (.slice a2 t.wait.length cap2)) (tbCells (.slice none 0 0) (.slice none 0 0)) 25 ?_ ?_ ?_ ?_ ?_ ?_ ?_); (exact rfl); (exact rfl); (exact (HS1.out).get 2 rfl); (exact info_tb); (exact rfl); (exact (oneCell_tb _ _ _ _ _ _)); skip))
  have HS41 : Hid (Hp w [.ob (w.heap.size) 25 (tbCells (.slice a t.held.length cap) (.slice a2 t.wait.length cap2)), .ob b1k 27 (lkCells k), .ob b2 25 (tbCells (.slice a t.held.length cap) (.slice a2 t.wait.length cap2)), .rd R] (w2.setRow b2 (tbCells (.slice a t.held.length cap) (.slice a2 t.wait.length cap2)).toArray)) := (HS1.out).row 2 rfl (tbCells (.slice a t.held.length cap) (.slice a2 t.wait.length cap2))
  clear HS1
  generalize (w2.setRow b2 (tbCells (.slice a t.held.length cap) (.slice a2 t.wait.length cap2)).toArray) = w41 at *
  refine bodyPost_ret (results_ob Try.results23 _ _ b2 (tbCells (.slice a t.held.length cap) (.slice a2 t.wait.length cap2)) 25 _ rfl ((HS41.out).get 2 rfl) HUT.out rfl info_tb) rfl ?_
  rw [HE.out]
  exact ⟨_, _, R, rfl, HT.out, (HS41.out).reads 3 rfl, fun r hr => .inr (List.mem_map.2 ⟨r, hr, rfl⟩), (HS41.out).old⟩
 ·have HE : Hid (dropR t tx k.page k.slot = settleR ⟨leftKey t.held tx k.page k.slot, t.wait⟩) := Lib.hid (by rw [HV.out]; first | rfl | simp)
  have HSt := Lib.hid (HSe.out (by first | trivial | rfl))
  clear HSe HV
  go_wp2_with fail
  refine wp_region_held_drew (S := fun w' => w'.rangeAt w.heap.size 0 (tbCells (.slice a t.held.length cap) (.slice a2 t.wait.length cap2)) ∧ w'.rangeAt b1k 0 (lkCells k)) (by kernel_rfl) (⟨(fun j v hv => by rw [Nat.zero_add]; exact ((HS1.out).drew).at 0 rfl j hv), (fun j v hv => by rw [Nat.zero_add]; exact ((HS1.out).drew).at 1 rfl j hv)⟩) (fun hHeld => ?_)
  refine tk 0 qRfLk8_10 (some 11) (v := ?q101v) (Or.inl ⟨by rfl, ?q101h⟩) hHeld ?q101r
  case q101h => (intro wq hSw; clear hSw; go_simp; try with_reducible rfl)
  try simp only [z0, z1, z2, z3]
  refine tk 1 qRfLk8_11 (some 12) (v := .slice a t.held.length cap) (Or.inl ⟨by rfl, ?q102h⟩) hHeld ?q102r
  case q102h => (intro wq hSw; have lq := (hSw.1) 0 (.slice a t.held.length cap) rfl; simp only [Nat.zero_add] at lq; clear hSw; go_simp; try with_reducible rfl)
  try simp only [z0, z1, z2, z3]
  refine tk 2 qRfLk8_12 (some 13) (v := ?q103v) (Or.inl ⟨by rfl, ?q103h⟩) hHeld ?q103r
  case q103h => (intro wq hSw; clear hSw; go_simp; try with_reducible rfl)
  try simp only [z0, z1, z2, z3]
  refine tk 3 qRfLk8_13 (some 14) (yieldsIf_load_mid (by rfl) 27 (.tmp 5) rfl b1k (0) rfl (lkCells k) _ (fun _ h => h.2) HUK.out rfl (info_lk)) hHeld ?_
  try simp only [z0, z1, z2, z3]
  refine tk 5 qRfLk8_14 (some 16) (v := ?q105v) (Or.inl ⟨by rfl, ?q105h⟩) hHeld ?q105r
  case q105h => (intro wq hSw; clear hSw; go_simp; try with_reducible rfl)
  try simp only [z0, z1, z2, z3]
  refine tk 6 qRfLk8_15 (some 17) (v := .slice a2 t.wait.length cap2) (Or.inl ⟨by rfl, ?q106h⟩) hHeld ?q106r
  case q106h => (intro wq hSw; have lq := (hSw.1) 1 (.slice a2 t.wait.length cap2) rfl; simp only [Nat.zero_add] at lq; clear hSw; go_simp; try with_reducible rfl)
  try simp only [z0, z1, z2, z3]
  refine tn 4 qRfLk8_16 (fun K hK => ?_)
  go_simp
  go_wp2_with (go_at_call 51; refine (HLf.out _ ((HS1.out).drew).old).mono ?_; rintro e w61 ⟨vh, R2, rfl, hrd2, hin2, hnew2, hb⟩)
  have hnew3 : ∀ r ∈ R2, w.heap.size ≤ r.1 := fun r hr => Nat.le_trans ((HS1.out).drew).old.size (hnew2 r hr)
  obtain ⟨a3, c3, rfl, hc3, hm3⟩ := hrd2.shape
  have H2 := Lib.hid hrd2
  have N2 := Lib.hid hnew3
  have HS61 : Hid (Hp w [.ob (w.heap.size) 25 (tbCells (.slice a t.held.length cap) (.slice a2 t.wait.length cap2)), .ob b1k 27 (lkCells k), .ob b2 25 (tbCells (.slice none 0 0) (.slice none 0 0)), .rd R, .rd R2] w61) := ((HS1.out).drew).addrd hb R2 hin2 (fun r hr => .inl (hnew2 r hr))
  refine hK.out _ _ (⟨(fun j v hv => by rw [Nat.zero_add]; exact (HS61.out).at 0 rfl j hv), (fun j v hv => by rw [Nat.zero_add]; exact (HS61.out).at 1 rfl j hv)⟩) (fun hHeld => ?_)
  clear hK K hb hin2 hrd2 hnew2 hnew3
  try simp only [z0, z1, z2, z3]
  refine tk 7 qRfLk8_17 (some 18) (yieldsIf_build_v (by rfl) 25 (.agg (tbCells (.slice a3 (leftKey t.held tx k.page k.slot).length c3) (.slice a2 t.wait.length cap2)).toArray) rfl (fun W => by simp only [List.map_toArray, List.map_cons, List.map_nil]; exact build_tb2 _ _ _ _ _ _ W)) hHeld ?_
  try simp only [z0, z1, z2, z3]
  refine tn 8 qRfLk8_18 (fun K hK => ?_)
  go_simp
  go_wp2_with (go_at_call 47; refine (HSt.out _ (Q := R ++ R2) ⟨SlRd.mono H2.out (fun r hr => by simp [hr]), SlRd.mono HT.out.2 (fun r hr => by simp [hr])⟩ (RdIn.append ((HS61.out).reads 3 rfl) ((HS61.out).reads 4 rfl))).mono ?_; rintro e w62 ⟨h9, v9, R9, rfl, hrd2, hin2, hnew2, hb⟩)
  have hnew3 : ∀ r ∈ R9, w.heap.size ≤ r.1 ∨ r.1 ∈ R.map (·.1) := fun r hr => by
   rcases hnew2 r hr with h | h
   ·exact .inl (Nat.le_trans (HS61.out).old.size h)
   ·obtain ⟨q, hq, hqe⟩ := List.mem_map.1 h
    rw [← hqe]
    rcases List.mem_append.1 hq with hq | hq
    ·exact .inr (List.mem_map.2 ⟨q, hq, rfl⟩)
    ·exact .inl (N2.out q hq)
  obtain ⟨a9, c9, rfl, _, _⟩ := hrd2.1.shape
  obtain ⟨d9, e9, rfl, _, _⟩ := hrd2.2.shape
  have H9 := Lib.hid hrd2
  have N9 := Lib.hid hnew3
  have HS62 : Hid (Hp w [.ob (w.heap.size) 25 (tbCells (.slice a t.held.length cap) (.slice a2 t.wait.length cap2)), .ob b1k 27 (lkCells k), .ob b2 25 (tbCells (.slice none 0 0) (.slice none 0 0)), .rd R, .rd R2, .rd R9] w62) := (HS61.out).addrd hb R9 hin2 (fun r hr => (hnew2 r hr).elim .inl (fun h => .inr (by obtain ⟨q, hq, hqe⟩ := List.mem_map.1 h; rcases List.mem_append.1 hq with hq | hq; exact ⟨.rd R, List.mem_of_getElem? (i := 3) rfl, List.mem_map.2 ⟨q, hq, hqe⟩⟩; exact ⟨.rd R2, List.mem_of_getElem? (i := 4) rfl, List.mem_map.2 ⟨q, hq, hqe⟩⟩)))
  refine hK.out _ _ (⟨(fun j v hv => by rw [Nat.zero_add]; exact (HS62.out).at 0 rfl j hv), (fun j v hv => by rw [Nat.zero_add]; exact (HS62.out).at 1 rfl j hv)⟩) (fun hHeld => ?_)
  clear hK K hb hin2 hrd2 hnew2 hnew3
  try simp only [z0, z1, z2, z3]
  refine tn 9 qRfLk8_19 (fun K hK => ?_)
  rw [if_pos (by rfl)]
  refine wp_store_ob 25 (.tmp 6) (.tmp 19) b2 (tbCells (.slice a9 (settleR ⟨leftKey t.held tx k.page k.slot, t.wait⟩).held.length c9) (.slice d9 (settleR ⟨leftKey t.held tx k.page k.slot, t.wait⟩).wait.length e9)) (tbCells (.slice none 0 0) (.slice none 0 0)) 25 rfl rfl rfl rfl ((HS62.out).get 2 rfl) (info_tb) (rfl) ((oneCell_tb _ _ _ _ _ _)) ?_
  have HS63 : Hid (Hp w [.ob (w.heap.size) 25 (tbCells (.slice a t.held.length cap) (.slice a2 t.wait.length cap2)), .ob b1k 27 (lkCells k), .ob b2 25 (tbCells (.slice a9 (settleR ⟨leftKey t.held tx k.page k.slot, t.wait⟩).held.length c9) (.slice d9 (settleR ⟨leftKey t.held tx k.page k.slot, t.wait⟩).wait.length e9)), .rd R, .rd R2, .rd R9] (w62.setRow b2 (tbCells (.slice a9 (settleR ⟨leftKey t.held tx k.page k.slot, t.wait⟩).held.length c9) (.slice d9 (settleR ⟨leftKey t.held tx k.page k.slot, t.wait⟩).wait.length e9)).toArray)) := (HS62.out).row 2 rfl (tbCells (.slice a9 (settleR ⟨leftKey t.held tx k.page k.slot, t.wait⟩).held.length c9) (.slice d9 (settleR ⟨leftKey t.held tx k.page k.slot, t.wait⟩).wait.length e9))
  refine hK.out _ _ (⟨(fun j v hv => by rw [Nat.zero_add]; exact (HS63.out).at 0 rfl j hv), (fun j v hv => by rw [Nat.zero_add]; exact (HS63.out).at 1 rfl j hv)⟩) (fun hHeld => ?_)
  clear hK K
  generalize (w62.setRow b2 (tbCells (.slice a9 (settleR ⟨leftKey t.held tx k.page k.slot, t.wait⟩).held.length c9) (.slice d9 (settleR ⟨leftKey t.held tx k.page k.slot, t.wait⟩).wait.length e9)).toArray) = w63 at *
  try simp only [z0, z1, z2, z3]
  refine wpAnyH_done (by kernel_rfl) ?_ _
  clear hHeld
  go_wp2_with fail
  refine bodyPost_ret (results_ob Try.results23 _ _ b2 (tbCells (.slice a9 (settleR ⟨leftKey t.held tx k.page k.slot, t.wait⟩).held.length c9) (.slice d9 (settleR ⟨leftKey t.held tx k.page k.slot, t.wait⟩).wait.length e9)) 25 _ rfl ((HS63.out).get 2 rfl) HUT.out rfl info_tb) rfl ?_
  rw [HE.out]
  exact ⟨_, _, R9, rfl, H9.out, (HS63.out).reads 5 rfl, N9.out, (HS63.out).old⟩
set_option maxHeartbeats 8000000 in
theorem rrelease_any {h v : Value} {t : Tb} {R : List Rng} (tx : Int) (w : World) (ht : TbRd h v t R) (hR : RdIn w R) (hg : GoodTb t) :
  Calls Try.prog 29 #[.agg (tbCells h v).toArray, .int .i64 tx] w (TbPost w R (releaseR t tx)) := by
 obtain ⟨a, cap, rfl, hnc, hcm⟩ := ht.1.shape
 obtain ⟨a2, cap2, rfl, hnc2, hcm2⟩ := ht.2.shape
 have HT := Lib.hid ht
 have HR := Lib.hid hR
 have HVa : Hid (∀ W, Below w.heap.size w W → Calls Try.prog 13 #[.agg (tbCells (.slice a t.held.length cap) (.slice a2 t.wait.length cap2)).toArray] W fun e w' => e = .returned (.bool (tbOkB t)) ∧ Below W.heap.size W w') := fun W hb => rlkvalid_any W ht (hR.below hb) hg
 have HLf : Hid (∀ W, Below w.heap.size w W → Calls Try.prog 51 #[.slice a t.held.length cap, .int .i64 tx, .bool false, .agg (lkCells lkNil).toArray] W (GrPost W (leftTx t.held tx))) := fun W hb => by rw [← left_all t.held tx 0 0]; exact rleft_any tx false lkNil W ht.1 (hR.below hb) hg.held hg.few.1 ⟨by decide, by decide⟩
 have HLw : Hid (∀ W, Below w.heap.size w W → Calls Try.prog 51 #[.slice a2 t.wait.length cap2, .int .i64 tx, .bool false, .agg (lkCells lkNil).toArray] W (GrPost W (leftTx t.wait tx))) := fun W hb => by rw [← left_all t.wait tx 0 0]; exact rleft_any tx false lkNil W ht.2 (hR.below hb) hg.wait hg.few.2 ⟨by decide, by decide⟩
 have HV : Hid (releaseR t tx = if tbOkB t = true then settleR ⟨leftTx t.held tx, leftTx t.wait tx⟩ else t) := rfl
 have HSe : Hid (tbOkB t = true → ∀ W {h v : Value} {Q : List Rng}, TbRd h v ⟨leftTx t.held tx, leftTx t.wait tx⟩ Q → RdIn W Q → Calls Try.prog 47 #[.agg (tbCells h v).toArray] W (TbPost W Q (settleR ⟨leftTx t.held tx, leftTx t.wait tx⟩))) := fun hk W h v Q h1 h2 => rsettle_any W h1 h2 (release_in (tbOkB_iff.1 hk) tx) (by have h1 := (tbOkB_iff.1 hk).few; have h2 := leftTx_len t.wait tx; have h3 := leftTx_len t.held tx; show (leftTx t.held tx).length + (leftTx t.wait tx).length ≤ 2000; omega)
 clear ht hR hg
 have h1 := ((((Hp.startrd w R HR.out).put 25 (tbCells (.slice a t.held.length cap) (.slice a2 t.wait.length cap2)))).put 25 (tbCells (.slice none 0 0) (.slice none 0 0)))
 simp only [World.size_alloc, List.nil_append, List.cons_append] at h1
 have h2 := h1.pull [1, 2, 0] (M := [.ob w.heap.size 25 (tbCells (.slice a t.held.length cap) (.slice a2 t.wait.length cap2)), .ob (w.heap.size + 1) 25 (tbCells (.slice none 0 0) (.slice none 0 0)), .rd R]) rfl (pull_nd h1.nd [1, 2, 0] rfl (by decide))
 have HS0 : Hid (Hp w [.ob w.heap.size 25 (tbCells (.slice a t.held.length cap) (.slice a2 t.wait.length cap2)), .ob (w.heap.size + 1) 25 (tbCells (.slice none 0 0) (.slice none 0 0)), .rd R] ((w.alloc (.cells (tbCells (.slice a t.held.length cap) (.slice a2 t.wait.length cap2)).toArray 25)).alloc (.cells #[.slice none 0 0, .slice none 0 0] 25))) := h2
 clear h1 h2
 obtain ⟨fsHUG, huHUG⟩ := under_gr
 have HUG := Lib.hid huHUG
 clear huHUG
 obtain ⟨fsHUK, huHUK⟩ := under_lk
 have HUK := Lib.hid huHUK
 clear huHUK
 obtain ⟨fsHUT, huHUT⟩ := under_tb
 have HUT := Lib.hid huHUT
 clear huHUT
 generalize tbOkB t = ok at *
 go_enter Try.func29, Try.ntmps29
 go_upto_region 1 with (fail)
 generalize ((w.alloc (.cells (tbCells (.slice a t.held.length cap) (.slice a2 t.wait.length cap2)).toArray 25)).alloc (.cells #[.slice none 0 0, .slice none 0 0] 25)) = w1 at *
 generalize (w.heap.size + 1) = b2 at *
 have b0 : w1.cell? ⟨w.heap.size, 0, none⟩ = some (.slice a t.held.length cap) := HS0.out.at 0 rfl 0 rfl
 have b1 : w1.cell? ⟨w.heap.size, 1, none⟩ = some (.slice a2 t.wait.length cap2) := HS0.out.at 0 rfl 1 rfl
 go_wp2_with fail
 refine (HVa.out _ HS0.out.old).mono ?_
 rintro e w2 ⟨rfl, hb⟩
 have HS1 := Lib.hid (HS0.out.calls hb)
 clear b0 b1 HS0 hb HVa
 cases ok
 ·have HE : Hid (releaseR t tx = t) := Lib.hid (by rw [HV.out]; rfl)
  go_wp2_with (first | ((with_reducible refine wpList_load_ob 25 (.tmp 2) (w.heap.size) (tbCells (.slice a t.held.length cap) (.slice a2 t.wait.length cap2)) 25 HUT.out ?_ ?_ ?_ ?_ ?_); (exact rfl); (exact (HS1.out).get 0 rfl); (exact rfl); (exact info_tb); simp only [Act.put, List.setIfInBounds_toArray, List.set_cons_zero, List.set_cons_succ]) | ((with_reducible refine wpList_store_ob 25 (.tmp 4) b2 (tbCells (.slice a t.held.length cap) (.slice a2 t.wait.length cap2)) (tbCells (.slice none 0 0) (.slice none 0 0)) 25 ?_ ?_ ?_ ?_ ?_ ?_ ?_); (exact rfl); (exact rfl); (exact (HS1.out).get 1 rfl); (exact info_tb); (exact rfl); (exact (oneCell_tb _ _ _ _ _ _)); skip))
  have HS41 : Hid (Hp w [.ob (w.heap.size) 25 (tbCells (.slice a t.held.length cap) (.slice a2 t.wait.length cap2)), .ob b2 25 (tbCells (.slice a t.held.length cap) (.slice a2 t.wait.length cap2)), .rd R] (w2.setRow b2 (tbCells (.slice a t.held.length cap) (.slice a2 t.wait.length cap2)).toArray)) := (HS1.out).row 1 rfl (tbCells (.slice a t.held.length cap) (.slice a2 t.wait.length cap2))
  clear HS1
  generalize (w2.setRow b2 (tbCells (.slice a t.held.length cap) (.slice a2 t.wait.length cap2)).toArray) = w41 at *
  refine bodyPost_ret (results_ob Try.results29 _ _ b2 (tbCells (.slice a t.held.length cap) (.slice a2 t.wait.length cap2)) 25 _ rfl ((HS41.out).get 1 rfl) HUT.out rfl info_tb) rfl ?_
  rw [HE.out]
  exact ⟨_, _, R, rfl, HT.out, (HS41.out).reads 2 rfl, fun r hr => .inr (List.mem_map.2 ⟨r, hr, rfl⟩), (HS41.out).old⟩
 ·have HE : Hid (releaseR t tx = settleR ⟨leftTx t.held tx, leftTx t.wait tx⟩) := Lib.hid (by rw [HV.out]; first | rfl | simp)
  have HSt := Lib.hid (HSe.out (by first | trivial | rfl))
  clear HSe HV
  go_wp2_with fail
  refine wp_region_held_drew (S := fun w' => w'.rangeAt w.heap.size 0 (tbCells (.slice a t.held.length cap) (.slice a2 t.wait.length cap2))) (by kernel_rfl) ((fun j v hv => by rw [Nat.zero_add]; exact ((HS1.out).drew).at 0 rfl j hv)) (fun hHeld => ?_)
  refine tk 0 qRfLk8_20 (some 9) (v := ?q101v) (Or.inl ⟨by rfl, ?q101h⟩) hHeld ?q101r
  case q101h => (intro wq hSw; clear hSw; go_simp; try with_reducible rfl)
  try simp only [z0, z1, z2, z3]
  refine tk 1 qRfLk8_21 (some 10) (v := .slice a t.held.length cap) (Or.inl ⟨by rfl, ?q102h⟩) hHeld ?q102r
  case q102h => (intro wq hSw; have lq := (hSw) 0 (.slice a t.held.length cap) rfl; simp only [Nat.zero_add] at lq; clear hSw; go_simp; try with_reducible rfl)
  try simp only [z0, z1, z2, z3]
  refine tk 2 qRfLk8_22 (some 11) (v := ?q103v) (Or.inl ⟨by rfl, ?q103h⟩) hHeld ?q103r
  case q103h => (intro wq hSw; clear hSw; go_simp; try with_reducible rfl)
  try simp only [z0, z1, z2, z3]
  refine tk 3 qRfLk8_23 (some 12) (yieldsIf_build_v (by rfl) 27 (.agg (lkCells lkNil).toArray) rfl (fun W => by simp only [List.map_toArray, List.map_cons, List.map_nil]; exact build_lk0 W)) hHeld ?_
  try simp only [z0, z1, z2, z3]
  refine tk 5 qRfLk8_24 (some 14) (v := ?q105v) (Or.inl ⟨by rfl, ?q105h⟩) hHeld ?q105r
  case q105h => (intro wq hSw; clear hSw; go_simp; try with_reducible rfl)
  try simp only [z0, z1, z2, z3]
  refine tk 6 qRfLk8_25 (some 15) (v := .slice a2 t.wait.length cap2) (Or.inl ⟨by rfl, ?q106h⟩) hHeld ?q106r
  case q106h => (intro wq hSw; have lq := (hSw) 1 (.slice a2 t.wait.length cap2) rfl; simp only [Nat.zero_add] at lq; clear hSw; go_simp; try with_reducible rfl)
  try simp only [z0, z1, z2, z3]
  refine tk 7 qRfLk8_26 (some 16) (v := ?q107v) (Or.inl ⟨by rfl, ?q107h⟩) hHeld ?q107r
  case q107h => (intro wq hSw; clear hSw; go_simp; try with_reducible rfl)
  try simp only [z0, z1, z2, z3]
  refine tk 8 qRfLk8_27 (some 17) (yieldsIf_build_v (by rfl) 27 (.agg (lkCells lkNil).toArray) rfl (fun W => by simp only [List.map_toArray, List.map_cons, List.map_nil]; exact build_lk0 W)) hHeld ?_
  try simp only [z0, z1, z2, z3]
  refine tn 4 qRfLk8_28 (fun K hK => ?_)
  go_simp
  go_wp2_with (go_at_call 51; refine (HLf.out _ ((HS1.out).drew).old).mono ?_; rintro e w61 ⟨vh, R2, rfl, hrd2, hin2, hnew2, hb⟩)
  have hnew3 : ∀ r ∈ R2, w.heap.size ≤ r.1 := fun r hr => Nat.le_trans ((HS1.out).drew).old.size (hnew2 r hr)
  obtain ⟨a3, c3, rfl, hc3, hm3⟩ := hrd2.shape
  have H2 := Lib.hid hrd2
  have N2 := Lib.hid hnew3
  have HS61 : Hid (Hp w [.ob (w.heap.size) 25 (tbCells (.slice a t.held.length cap) (.slice a2 t.wait.length cap2)), .ob b2 25 (tbCells (.slice none 0 0) (.slice none 0 0)), .rd R, .rd R2] w61) := ((HS1.out).drew).addrd hb R2 hin2 (fun r hr => .inl (hnew2 r hr))
  refine hK.out _ _ ((fun j v hv => by rw [Nat.zero_add]; exact (HS61.out).at 0 rfl j hv)) (fun hHeld => ?_)
  clear hK K hb hin2 hrd2 hnew2 hnew3
  try simp only [z0, z1, z2, z3]
  refine tn 9 qRfLk8_29 (fun K hK => ?_)
  go_simp
  go_wp2_with (go_at_call 51; refine (HLw.out _ (HS61.out).old).mono ?_; rintro e w62 ⟨vh, R3, rfl, hrd2, hin2, hnew2, hb⟩)
  have hnew3 : ∀ r ∈ R3, w.heap.size ≤ r.1 := fun r hr => Nat.le_trans (HS61.out).old.size (hnew2 r hr)
  obtain ⟨a4, c4, rfl, hc4, hm4⟩ := hrd2.shape
  have H3 := Lib.hid hrd2
  have N3 := Lib.hid hnew3
  have HS62 : Hid (Hp w [.ob (w.heap.size) 25 (tbCells (.slice a t.held.length cap) (.slice a2 t.wait.length cap2)), .ob b2 25 (tbCells (.slice none 0 0) (.slice none 0 0)), .rd R, .rd R2, .rd R3] w62) := (HS61.out).addrd hb R3 hin2 (fun r hr => .inl (hnew2 r hr))
  refine hK.out _ _ ((fun j v hv => by rw [Nat.zero_add]; exact (HS62.out).at 0 rfl j hv)) (fun hHeld => ?_)
  clear hK K hb hin2 hrd2 hnew2 hnew3
  try simp only [z0, z1, z2, z3]
  refine tk 10 qRfLk8_30 (some 19) (yieldsIf_build_v (by rfl) 25 (.agg (tbCells (.slice a3 (leftTx t.held tx).length c3) (.slice a4 (leftTx t.wait tx).length c4)).toArray) rfl (fun W => by simp only [List.map_toArray, List.map_cons, List.map_nil]; exact build_tb2 _ _ _ _ _ _ W)) hHeld ?_
  try simp only [z0, z1, z2, z3]
  refine tn 11 qRfLk8_31 (fun K hK => ?_)
  go_simp
  go_wp2_with (go_at_call 47; refine (HSt.out _ (Q := R2 ++ R3) ⟨SlRd.mono H2.out (fun r hr => by simp [hr]), SlRd.mono H3.out (fun r hr => by simp [hr])⟩ (RdIn.append ((HS62.out).reads 3 rfl) ((HS62.out).reads 4 rfl))).mono ?_; rintro e w63 ⟨h9, v9, R9, rfl, hrd2, hin2, hnew2, hb⟩)
  have hnew3 : ∀ r ∈ R9, w.heap.size ≤ r.1 ∨ r.1 ∈ R.map (·.1) := fun r hr => by
   rcases hnew2 r hr with h | h
   ·exact .inl (Nat.le_trans (HS62.out).old.size h)
   ·obtain ⟨q, hq, hqe⟩ := List.mem_map.1 h
    rw [← hqe]
    rcases List.mem_append.1 hq with hq | hq
    ·exact .inl (N2.out q hq)
    ·exact .inl (N3.out q hq)
  obtain ⟨a9, c9, rfl, _, _⟩ := hrd2.1.shape
  obtain ⟨d9, e9, rfl, _, _⟩ := hrd2.2.shape
  have H9 := Lib.hid hrd2
  have N9 := Lib.hid hnew3
  have HS63 : Hid (Hp w [.ob (w.heap.size) 25 (tbCells (.slice a t.held.length cap) (.slice a2 t.wait.length cap2)), .ob b2 25 (tbCells (.slice none 0 0) (.slice none 0 0)), .rd R, .rd R2, .rd R3, .rd R9] w63) := (HS62.out).addrd hb R9 hin2 (fun r hr => (hnew2 r hr).elim .inl (fun h => .inr (by obtain ⟨q, hq, hqe⟩ := List.mem_map.1 h; rcases List.mem_append.1 hq with hq | hq; exact ⟨.rd R2, List.mem_of_getElem? (i := 3) rfl, List.mem_map.2 ⟨q, hq, hqe⟩⟩; exact ⟨.rd R3, List.mem_of_getElem? (i := 4) rfl, List.mem_map.2 ⟨q, hq, hqe⟩⟩)))
  refine hK.out _ _ ((fun j v hv => by rw [Nat.zero_add]; exact (HS63.out).at 0 rfl j hv)) (fun hHeld => ?_)
  clear hK K hb hin2 hrd2 hnew2 hnew3
  try simp only [z0, z1, z2, z3]
  refine tn 12 qRfLk8_32 (fun K hK => ?_)
  rw [if_pos (by rfl)]
  refine wp_store_ob 25 (.tmp 4) (.tmp 20) b2 (tbCells (.slice a9 (settleR ⟨leftTx t.held tx, leftTx t.wait tx⟩).held.length c9) (.slice d9 (settleR ⟨leftTx t.held tx, leftTx t.wait tx⟩).wait.length e9)) (tbCells (.slice none 0 0) (.slice none 0 0)) 25 rfl rfl rfl rfl ((HS63.out).get 1 rfl) (info_tb) (rfl) ((oneCell_tb _ _ _ _ _ _)) ?_
  have HS64 : Hid (Hp w [.ob (w.heap.size) 25 (tbCells (.slice a t.held.length cap) (.slice a2 t.wait.length cap2)), .ob b2 25 (tbCells (.slice a9 (settleR ⟨leftTx t.held tx, leftTx t.wait tx⟩).held.length c9) (.slice d9 (settleR ⟨leftTx t.held tx, leftTx t.wait tx⟩).wait.length e9)), .rd R, .rd R2, .rd R3, .rd R9] (w63.setRow b2 (tbCells (.slice a9 (settleR ⟨leftTx t.held tx, leftTx t.wait tx⟩).held.length c9) (.slice d9 (settleR ⟨leftTx t.held tx, leftTx t.wait tx⟩).wait.length e9)).toArray)) := (HS63.out).row 1 rfl (tbCells (.slice a9 (settleR ⟨leftTx t.held tx, leftTx t.wait tx⟩).held.length c9) (.slice d9 (settleR ⟨leftTx t.held tx, leftTx t.wait tx⟩).wait.length e9))
  refine hK.out _ _ ((fun j v hv => by rw [Nat.zero_add]; exact (HS64.out).at 0 rfl j hv)) (fun hHeld => ?_)
  clear hK K
  generalize (w63.setRow b2 (tbCells (.slice a9 (settleR ⟨leftTx t.held tx, leftTx t.wait tx⟩).held.length c9) (.slice d9 (settleR ⟨leftTx t.held tx, leftTx t.wait tx⟩).wait.length e9)).toArray) = w64 at *
  try simp only [z0, z1, z2, z3]
  refine wpAnyH_done (by kernel_rfl) ?_ _
  clear hHeld
  go_wp2_with fail
  refine bodyPost_ret (results_ob Try.results29 _ _ b2 (tbCells (.slice a9 (settleR ⟨leftTx t.held tx, leftTx t.wait tx⟩).held.length c9) (.slice d9 (settleR ⟨leftTx t.held tx, leftTx t.wait tx⟩).wait.length e9)) 25 _ rfl ((HS64.out).get 1 rfl) HUT.out rfl info_tb) rfl ?_
  rw [HE.out]
  exact ⟨_, _, R9, rfl, H9.out, (HS64.out).reads 5 rfl, N9.out, (HS64.out).old⟩
end Go.Proofs.Ytcnaalbpbalgdaa
/- what reads, its spare cut off, is appended to: the whole is new -/
namespace Go.Proofs.Ytcnaalbpbalgdaa
open Go.RowKit
set_option maxRecDepth 20000

theorem results_cell_tmp2 {fn : Func} {p u u2 : Tmp} {ty : TypeId} (h : fn.results = #[.cell p ty, .tmp u, .tmp u2]) (tmps : Array Value) (P : Program) (w : World) :
    (results fn tmps).run P w =
      ((asAddr (tmps.getD p undef)).run P w).andThen fun a w₁ => ((loadVar ty a).run P w₁).andThen fun v w₂ => .ok (.tuple #[v, tmps.getD u undef, tmps.getD u2 undef]) w₂ := by
  simp only [results, h]
  simp [Sem.run_bind, Result.andThen]
theorem results_ob_tmp2 {fn : Func} {p u u2 : Tmp} {t : TypeId} (h : fn.results = #[.cell p t, .tmp u, .tmp u2]) (tmps : Array Value) (w : World) (g : Nat) (cs : List Value) (t0 : TypeId) (ds : TypeDesc)
    (hp : tmps.getD p undef = .pointer (some ⟨g, 0, none⟩)) (hg : w.heap[g]? = some (.cells cs.toArray t0 (0, 0))) (hu : Try.prog.underlying t = some ds) (hd : ds.isRow = true) (hi : (Try.prog.info? t).map (·.size) = some cs.length) :
    (results fn tmps).run Try.prog w = .ok (.tuple #[.agg cs.toArray, tmps.getD u undef, tmps.getD u2 undef]) w := by
  rw [results_cell_tmp2 h, hp]
  simp [asAddr, run_loadVar_row w g t0 t cs.toArray (0, 0) ds hg hu (by cases ds <;> simp_all) (by rw [List.size_toArray]; exact hi), Result.andThen]
end Go.Proofs.Ytcnaalbpbalgdaa
