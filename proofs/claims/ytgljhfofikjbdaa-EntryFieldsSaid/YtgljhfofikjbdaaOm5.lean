/- texts of a claim, one after the other: the choices of the drawing package: Entry, OddEntry, the choices of a law's walk, as a thing, the choices of the drawing package: Spoilt, what the laws of chapter 5 begin with, words that came in by value, opened, a change that came in by value, opened, an entry that came in by value, opened; slices of entries -/
import Derived.Test.YtgljhfofikjbdaaOm3
import Derived.Test.YtgljhfofikjbdaaOm4
import Derived.Test.YtgljhfofikjbdaaOm1
import Derived.Deep.RegionWith
/- the choices of the drawing package: Entry, OddEntry -/
namespace Go.Proofs.Ytgljhfofikjbdaa
open Go.RowKit
set_option maxRecDepth 20000
set_option linter.unusedSimpArgs false
set_option linter.unusedVariables false

/-- an entry that is drawn -/
structure DrawnEn (e : Ent) : Prop where
  ok : entOkB e = true
  lsn0 : 10 ≤ e.lsn
  lsn1 : e.lsn ≤ 99
  good : GoodEn e
theorem drawnCh_ok {c : Chg} (h : DrawnCh c) : chOkB c = true := chOk_of h.page0 (by have := h.page1; omega) h.slot0 (by have := h.slot1; omega) h.before h.after
theorem wfi {n : Int} (h0 : -9223372036854775808 ≤ n) (h1 : n ≤ 9223372036854775807) : (Lit.int .i64 n).wf = true := wf_of h0 h1
theorem sz0 : emptyS.size ≤ maxLen := by decide
theorem wf0 : (Lit.int .i64 0).wf = true := by decide
theorem drawn_1 {l t p g : Int} {c : Chg} (hl : 10 ≤ l ∧ l ≤ 99) (ht : 1 ≤ t ∧ t ≤ 5) (hp : 1 ≤ p ∧ p ≤ 9) (hg : 0 ≤ g ∧ g ≤ 9) (hc : DrawnCh c) : DrawnEn ⟨l, 1, t, p, g, 0, c, emptyS⟩ :=
  ⟨by
    have h := drawnCh_ok hc
    have hz : emptyS.size = 0 := rfl
    simp [entOkB, kindB, befB, ruleF, isTxB, anyB, noRefB, noBlobB, h, hz]
    omega, hl.1, hl.2, ⟨wfi (by show _ ≤ l; omega) (by show l ≤ _; omega), show (Lit.int .i64 1).wf = true by decide, wfi (by show _ ≤ t; omega) (by show t ≤ _; omega), wfi (by show _ ≤ p; omega) (by show p ≤ _; omega), wfi (by show _ ≤ g; omega) (by show g ≤ _; omega), wf0, hc.good, sz0⟩⟩
theorem drawn_2 {l t p g r : Int} {c : Chg} (hl : 10 ≤ l ∧ l ≤ 99) (ht : 1 ≤ t ∧ t ≤ 5) (hp : 1 ≤ p ∧ p ≤ 9) (hg : 0 ≤ g ∧ g ≤ 9) (hr : 1 ≤ r ∧ r ≤ p) (hc : DrawnCh c) : DrawnEn ⟨l, 2, t, p, g, r, c, emptyS⟩ :=
  ⟨by
    have h := drawnCh_ok hc
    have hz : emptyS.size = 0 := rfl
    simp [entOkB, kindB, befB, ruleF, isTxB, posB, anyB, upB, noBlobB, h, hz]
    omega, hl.1, hl.2, ⟨wfi (by show _ ≤ l; omega) (by show l ≤ _; omega), show (Lit.int .i64 2).wf = true by decide, wfi (by show _ ≤ t; omega) (by show t ≤ _; omega), wfi (by show _ ≤ p; omega) (by show p ≤ _; omega), wfi (by show _ ≤ g; omega) (by show g ≤ _; omega), wfi (by show _ ≤ r; omega) (by show r ≤ _; omega), hc.good, sz0⟩⟩
theorem drawn_3 {l k t p : Int} (hl : 10 ≤ l ∧ l ≤ 99) (hk : k = 3 ∨ k = 4 ∨ k = 5) (ht : 1 ≤ t ∧ t ≤ 5) (hp : 1 ≤ p ∧ p ≤ 9) : DrawnEn ⟨l, k, t, p, 0, 0, chNil, emptyS⟩ :=
  ⟨by
    have hz : emptyS.size = 0 := rfl
    have n1 : ¬ k = 1 := by omega
    have n2 : ¬ k = 2 := by omega
    simp [entOkB, kindB, befB, ruleF, markF, isTxB, posB, zeroB, noRefB, noChB, noBlobB, n1, n2, hk, hz, sameV_self]
    omega, hl.1, hl.2, ⟨wfi (by show _ ≤ l; omega) (by show l ≤ _; omega), wfi (by show _ ≤ k; omega) (by show k ≤ _; omega), wfi (by show _ ≤ t; omega) (by show t ≤ _; omega), wfi (by show _ ≤ p; omega) (by show p ≤ _; omega), wf0, wf0, nil_good, sz0⟩⟩
theorem drawn_6 {l k : Int} {s : ByteArray} (hl : 10 ≤ l ∧ l ≤ 99) (hk : k = 6 ∨ k = 8) (hs : s.size ≤ 13) : DrawnEn ⟨l, k, 0, 0, 0, 0, chNil, s⟩ :=
  ⟨by
    have n1 : ¬ k = 1 := by omega
    have n2 : ¬ k = 2 := by omega
    have n3 : ¬ (k = 3 ∨ k = 4 ∨ k = 5) := by omega
    have n7 : ¬ k = 7 := by omega
    simp [entOkB, kindB, befB, ruleF, textF, zeroB, noRefB, noChB, blobB, n1, n2, n3, n7, sameV_self]
    omega, hl.1, hl.2, ⟨wfi (by show _ ≤ l; omega) (by show l ≤ _; omega), wfi (by show _ ≤ k; omega) (by show k ≤ _; omega), wf0, wf0, wf0, wf0, nil_good, by show s.size ≤ maxLen; unfold maxLen; omega⟩⟩
theorem drawn_7 {l r p : Int} (hl : 10 ≤ l ∧ l ≤ 99) (hr : 0 ≤ r ∧ r ≤ 9) (hp : 0 ≤ p ∧ p ≤ 3) : DrawnEn ⟨l, 7, 0, 0, 0, r, ⟨p, 0, emptyCl, emptyCl⟩, emptyS⟩ :=
  ⟨by
    have hz : emptyS.size = 0 := rfl
    simp [entOkB, kindB, befB, ruleF, zeroB, anyRefB, aloneB, alone_ok, noBlobB, hz, sameV_self]
    omega, hl.1, hl.2, ⟨wfi (by show _ ≤ l; omega) (by show l ≤ _; omega), show (Lit.int .i64 7).wf = true by decide, wf0, wf0, wf0, wfi (by show _ ≤ r; omega) (by show r ≤ _; omega), ⟨wfi (by show _ ≤ p; omega) (by show p ≤ _; omega), by show (Lit.int .i64 0).wf = true; decide, sz0, sz0⟩, sz0⟩⟩
theorem Dr.cellat {w W : World} {C : Nat} {L : List Ob} (h : Dr w C L W) (i : Nat) {b : Nat} {t : TypeId} {cs : List Value} (e : L[i]? = some ⟨b, t, cs⟩) (k : Nat) {v : Value} (hv : cs[k]? = some v) : W.cell? ⟨b, k, none⟩ = some v := (h.at i e).at k hv
theorem Dr.mid {w W : World} {C : Nat} {L : List Ob} (h : Dr w C L W) (i : Nat) {b : Nat} {t : TypeId} {cs : List Value} (e : L[i]? = some ⟨b, t, cs⟩) (k : Nat) (vs : List Value) (hv : ∀ j v, vs[j]? = some v → cs[k + j]? = some v) : W.rangeAt b k vs := (h.at i e).range k vs hv
theorem Dr.below {w W W' : World} {C : Nat} {L : List Ob} (h : Dr w C L W) (k : Below W.heap.size W W') : Dr w C L W' :=
  ⟨h.bes.then_below (k.mono h.bes.size), h.codes.below k h.codes.lt, h.lt, fun o ho => (h.obs o ho).calls k, h.new, h.nd⟩
def EntPost (C : Nat) (w : World) (e : Ending) (w' : World) : Prop := ∃ x : Ent, e = .returned (.agg (enCells x).toArray) ∧ Hid (DrawnEn x) ∧ Besides C w w' ∧ CodesOk w' C
set_option maxHeartbeats 8000000 in
theorem entry_any (C : Nat) (w : World) (h : CodesOk w C) : Calls Try.prog 10 #[.pointer (some ⟨C, 0, none⟩)] w (EntPost C w) := by
  obtain ⟨fsHUE, huHUE⟩ := under_en
  have HUE := Lib.hid huHUE
  clear huHUE
  obtain ⟨fsHUC, huHUC⟩ := under_ch
  have HUC := Lib.hid huHUC
  clear huHUC
  have h1 := (Dr.start h).put 28 (enCells enNil)
  have HS0 : Hid (Dr w C [⟨w.heap.size, 28, enCells enNil⟩] (w.alloc (.cells #[.int .i64 0, .int .i64 0, .int .i64 0, .int .i64 0, .int .i64 0, .int .i64 0, .int .i64 0, .int .i64 0, .bool false, .string ⟨#[]⟩, .bool false, .string ⟨#[]⟩, .string ⟨#[]⟩] 28))) := h1
  clear h h1
  go_enter Try.func10, Try.ntmps10
  go_upto_region 1 with (fail)
  have HS2 : Hid (Dr w C [⟨w.heap.size, 28, enCells enNil⟩] (w.alloc (.cells #[.int .i64 0, .int .i64 0, .int .i64 0, .int .i64 0, .int .i64 0, .int .i64 0, .int .i64 0, .int .i64 0, .bool false, .string ⟨#[]⟩, .bool false, .string ⟨#[]⟩, .string ⟨#[]⟩] 28))) := HS0.out
  clear HS0
  generalize w.alloc (.cells #[.int .i64 0, .int .i64 0, .int .i64 0, .int .i64 0, .int .i64 0, .int .i64 0, .int .i64 0, .int .i64 0, .bool false, .string ⟨#[]⟩, .bool false, .string ⟨#[]⟩, .string ⟨#[]⟩] 28) = w3 at *
  go_wp2_with fail
  refine (next_any C 90 _ (HS2.out).codes (by omega)).mono ?_
  rintro e w4 ⟨a, rfl, a0, a1, hb, hc⟩
  have HS3 : Hid (Dr w C [⟨w.heap.size, 28, enCells enNil⟩] w4) := (HS2.out).draws hb hc
  clear hb hc
  clear HS2
  have a2 : a ≤ 90 - 1 := by omega
  go_wp2_with fail
  refine (next_any C 8 _ (HS3.out).codes (by omega)).mono ?_
  rintro e w5 ⟨b, rfl, b0, b1, hb, hc⟩
  have HS4 : Hid (Dr w C [⟨w.heap.size, 28, enCells enNil⟩] w5) := (HS3.out).draws hb hc
  clear hb hc
  clear HS3
  have b2 : b ≤ 8 - 1 := by omega
  go_upto_region 2 with (first | ((with_reducible refine wpList_build_v (d := some 10) 28 (.agg (enCells ⟨10 + a, 1 + b, 0, 0, 0, 0, chNil, emptyS⟩).toArray) ?_ ?_); (intro W; simp only [List.map_toArray, List.map_cons, List.map_nil]; exact build_two (10 + a) (1 + b) W); simp only [Act.put, List.setIfInBounds_toArray, List.set_cons_zero, List.set_cons_succ]) | ((with_reducible refine wpList_alloc_ob 28 (enCells enNil) ?_ ?_); (exact alloc_en); simp only [Act.put, List.setIfInBounds_toArray, List.set_cons_zero, List.set_cons_succ]) | ((with_reducible refine wpList_store_ob 28 (.tmp 3) (w5.heap.size) (enCells ⟨10 + a, 1 + b, 0, 0, 0, 0, chNil, emptyS⟩) (enCells enNil) 28 ?_ ?_ ?_ ?_ ?_ ?_ ?_); (exact rfl); (exact rfl); (exact ((HS4.out).put 28 (enCells enNil)).get 1 rfl); (exact info_en); (exact rfl); (exact (oneCell_en _)); skip))
  have HS5 : Hid (Dr w C [⟨w.heap.size, 28, enCells enNil⟩, ⟨w5.heap.size, 28, enCells ⟨10 + a, 1 + b, 0, 0, 0, 0, chNil, emptyS⟩⟩] ((w5.alloc (.cells (enCells enNil).toArray 28)).setRow (w5.heap.size) (enCells ⟨10 + a, 1 + b, 0, 0, 0, 0, chNil, emptyS⟩).toArray)) := ((HS4.out).put 28 (enCells enNil)).row 1 rfl (enCells ⟨10 + a, 1 + b, 0, 0, 0, 0, chNil, emptyS⟩)
  clear HS4
  generalize ((w5.alloc (.cells (enCells enNil).toArray 28)).setRow (w5.heap.size) (enCells ⟨10 + a, 1 + b, 0, 0, 0, 0, chNil, emptyS⟩).toArray) = w6 at *
  generalize w5.heap.size = B1 at *
  obtain ⟨l, hl⟩ : ∃ l, 10 + a = l := ⟨_, rfl⟩
  obtain ⟨k, hk⟩ : ∃ k, 1 + b = k := ⟨_, rfl⟩
  have HL : Hid (10 ≤ l ∧ l ≤ 99) := Lib.hid (by omega)
  have hk8 : k = 1 ∨ k = 2 ∨ k = 3 ∨ k = 4 ∨ k = 5 ∨ k = 6 ∨ k = 7 ∨ k = 8 := by omega
  rw [hl, hk] at HS5
  clear hl hk a0 a1 a2 b0 b1 b2
  rcases hk8 with rfl | rfl | rfl | rfl | rfl | rfl | rfl | rfl
  ·
    have c1 : w6.cell? ⟨B1, 1, none⟩ = some (.int .i64 1) := (HS5.out).cellat 1 rfl 1 rfl
    go_wp2_with fail
    refine (next_any C 5 _ (HS5.out).codes (by omega)).mono ?_
    rintro e w7 ⟨x, rfl, x0, x1, hb, hc⟩
    have HS6 : Hid (Dr w C [⟨w.heap.size, 28, enCells enNil⟩, ⟨B1, 28, enCells ⟨l, 1, 0, 0, 0, 0, chNil, emptyS⟩⟩] w7) := (HS5.out).draws hb hc
    clear hb hc
    clear HS5
    have x2 : x ≤ 5 - 1 := by omega
    go_wp2_with fail
    refine (next_any C 9 _ (HS6.out).codes (by omega)).mono ?_
    rintro e w8 ⟨y, rfl, y0, y1, hb, hc⟩
    have HS7 : Hid (Dr w C [⟨w.heap.size, 28, enCells enNil⟩, ⟨B1, 28, enCells ⟨l, 1, 0, 0, 0, 0, chNil, emptyS⟩⟩] w8) := (HS6.out).draws hb hc
    clear hb hc
    clear HS6
    have y2 : y ≤ 9 - 1 := by omega
    go_wp2_with fail
    refine (next_any C 10 _ (HS7.out).codes (by omega)).mono ?_
    rintro e w9 ⟨g, rfl, g0, g1, hb, hc⟩
    have HS8 : Hid (Dr w C [⟨w.heap.size, 28, enCells enNil⟩, ⟨B1, 28, enCells ⟨l, 1, 0, 0, 0, 0, chNil, emptyS⟩⟩] w9) := (HS7.out).draws hb hc
    clear hb hc
    clear HS7
    have g2 : g ≤ 10 - 1 := by omega
    go_wp2_with fail
    refine (change_any C _ (HS8.out).codes).mono ?_
    rintro e w10 ⟨c, rfl, hch, hb, hc⟩
    have HS9 : Hid (Dr w C [⟨w.heap.size, 28, enCells enNil⟩, ⟨B1, 28, enCells ⟨l, 1, 0, 0, 0, 0, chNil, emptyS⟩⟩] w10) := (HS8.out).draws hb hc
    clear hb hc
    clear HS8
    have HCh := Lib.hid hch
    clear hch
    go_upto_region 6 with (first | ((with_reducible refine wpList_store_fld 3 (.tmp 26) (.tmp 18) B1 2 (.int .i64 (1 + x)) ([.int .i64 (1 + x)]) (enCells ⟨l, 1, 0, 0, 0, 0, chNil, emptyS⟩) (enCells ⟨l, 1, (1 + x), 0, 0, 0, chNil, emptyS⟩) 28 ?_ ?_ ?_ ?_ ?_ ?_ ?_ ?_ ?_); (exact rfl); (exact rfl); (exact rfl); (exact (HS9.out).get 1 rfl); (exact (Nat.le_of_ble_eq_true rfl)); (exact info_int1); (exact (one_int _ _)); (exact rfl); skip) | ((with_reducible refine wpList_store_fld 3 (.tmp 27) (.tmp 21) B1 3 (.int .i64 (1 + y)) ([.int .i64 (1 + y)]) (enCells ⟨l, 1, (1 + x), 0, 0, 0, chNil, emptyS⟩) (enCells ⟨l, 1, (1 + x), (1 + y), 0, 0, chNil, emptyS⟩) 28 ?_ ?_ ?_ ?_ ?_ ?_ ?_ ?_ ?_); (exact rfl); (exact rfl); (exact rfl); (exact ((HS9.out).row 1 rfl (enCells ⟨l, 1, (1 + x), 0, 0, 0, chNil, emptyS⟩)).get 1 rfl); (exact (Nat.le_of_ble_eq_true rfl)); (exact info_int1); (exact (one_int _ _)); (exact rfl); skip) | ((with_reducible refine wpList_store_fld 3 (.tmp 28) (.tmp 23) B1 4 (.int .i64 g) ([.int .i64 g]) (enCells ⟨l, 1, (1 + x), (1 + y), 0, 0, chNil, emptyS⟩) (enCells ⟨l, 1, (1 + x), (1 + y), g, 0, chNil, emptyS⟩) 28 ?_ ?_ ?_ ?_ ?_ ?_ ?_ ?_ ?_); (exact rfl); (exact rfl); (exact rfl); (exact (((HS9.out).row 1 rfl (enCells ⟨l, 1, (1 + x), 0, 0, 0, chNil, emptyS⟩)).row 1 rfl (enCells ⟨l, 1, (1 + x), (1 + y), 0, 0, chNil, emptyS⟩)).get 1 rfl); (exact (Nat.le_of_ble_eq_true rfl)); (exact info_int1); (exact (one_int _ _)); (exact rfl); skip) | ((with_reducible refine wpList_store_fld 26 (.tmp 29) (.tmp 25) B1 6 (.agg (chCells c).toArray) (chCells c) (enCells ⟨l, 1, (1 + x), (1 + y), g, 0, chNil, emptyS⟩) (enCells ⟨l, 1, (1 + x), (1 + y), g, 0, c, emptyS⟩) 28 ?_ ?_ ?_ ?_ ?_ ?_ ?_ ?_ ?_); (exact rfl); (exact rfl); (exact rfl); (exact ((((HS9.out).row 1 rfl (enCells ⟨l, 1, (1 + x), 0, 0, 0, chNil, emptyS⟩)).row 1 rfl (enCells ⟨l, 1, (1 + x), (1 + y), 0, 0, chNil, emptyS⟩)).row 1 rfl (enCells ⟨l, 1, (1 + x), (1 + y), g, 0, chNil, emptyS⟩)).get 1 rfl); (exact (Nat.le_of_ble_eq_true rfl)); (exact info_ch); (exact (oneCell_ch _)); (exact rfl); skip))
    have HS10 : Hid (Dr w C [⟨w.heap.size, 28, enCells enNil⟩, ⟨B1, 28, enCells ⟨l, 1, (1 + x), (1 + y), g, 0, c, emptyS⟩⟩] ((((w10.setRow B1 (enCells ⟨l, 1, (1 + x), 0, 0, 0, chNil, emptyS⟩).toArray).setRow B1 (enCells ⟨l, 1, (1 + x), (1 + y), 0, 0, chNil, emptyS⟩).toArray).setRow B1 (enCells ⟨l, 1, (1 + x), (1 + y), g, 0, chNil, emptyS⟩).toArray).setRow B1 (enCells ⟨l, 1, (1 + x), (1 + y), g, 0, c, emptyS⟩).toArray)) := ((((HS9.out).row 1 rfl (enCells ⟨l, 1, (1 + x), 0, 0, 0, chNil, emptyS⟩)).row 1 rfl (enCells ⟨l, 1, (1 + x), (1 + y), 0, 0, chNil, emptyS⟩)).row 1 rfl (enCells ⟨l, 1, (1 + x), (1 + y), g, 0, chNil, emptyS⟩)).row 1 rfl (enCells ⟨l, 1, (1 + x), (1 + y), g, 0, c, emptyS⟩)
    clear HS9
    generalize ((((w10.setRow B1 (enCells ⟨l, 1, (1 + x), 0, 0, 0, chNil, emptyS⟩).toArray).setRow B1 (enCells ⟨l, 1, (1 + x), (1 + y), 0, 0, chNil, emptyS⟩).toArray).setRow B1 (enCells ⟨l, 1, (1 + x), (1 + y), g, 0, chNil, emptyS⟩).toArray).setRow B1 (enCells ⟨l, 1, (1 + x), (1 + y), g, 0, c, emptyS⟩).toArray) = w11 at *
    clear c1
    have c1 : w11.cell? ⟨B1, 1, none⟩ = some (.int .i64 1) := (HS10.out).cellat 1 rfl 1 rfl
    go_upto_region 17 with (fail)
    clear c1
    go_wp2_with (first | ((with_reducible refine wpList_load_ob 28 (.tmp 3) B1 (enCells ⟨l, 1, (1 + x), (1 + y), g, 0, c, emptyS⟩) 28 HUE.out ?_ ?_ ?_ ?_ ?_); (exact rfl); (exact (HS10.out).get 1 rfl); (exact rfl); (exact info_en); simp only [Act.put, List.setIfInBounds_toArray, List.set_cons_zero, List.set_cons_succ]) | ((with_reducible refine wpList_store_ob 28 (.tmp 2) (w.heap.size) (enCells ⟨l, 1, (1 + x), (1 + y), g, 0, c, emptyS⟩) (enCells enNil) 28 ?_ ?_ ?_ ?_ ?_ ?_ ?_); (exact rfl); (exact rfl); (exact (HS10.out).get 0 rfl); (exact info_en); (exact rfl); (exact (oneCell_en _)); skip))
    have HS11 : Hid (Dr w C [⟨w.heap.size, 28, enCells ⟨l, 1, (1 + x), (1 + y), g, 0, c, emptyS⟩⟩, ⟨B1, 28, enCells ⟨l, 1, (1 + x), (1 + y), g, 0, c, emptyS⟩⟩] (w11.setRow (w.heap.size) (enCells ⟨l, 1, (1 + x), (1 + y), g, 0, c, emptyS⟩).toArray)) := (HS10.out).row 0 rfl (enCells ⟨l, 1, (1 + x), (1 + y), g, 0, c, emptyS⟩)
    clear HS10
    generalize (w11.setRow (w.heap.size) (enCells ⟨l, 1, (1 + x), (1 + y), g, 0, c, emptyS⟩).toArray) = w12 at *
    refine bodyPost_ret (results_ob Try.results10 _ _ (w.heap.size) (enCells ⟨l, 1, (1 + x), (1 + y), g, 0, c, emptyS⟩) 28 _ rfl ((HS11.out).get 0 rfl) HUE.out rfl info_en) rfl ?_
    exact ⟨_, rfl, Lib.hid (drawn_1 HL.out (by omega) (by omega) (by omega) HCh.out), (HS11.out).bes, (HS11.out).codes⟩
  ·
    have c1 : w6.cell? ⟨B1, 1, none⟩ = some (.int .i64 2) := (HS5.out).cellat 1 rfl 1 rfl
    go_wp2_with fail
    refine (next_any C 5 _ (HS5.out).codes (by omega)).mono ?_
    rintro e w7 ⟨x, rfl, x0, x1, hb, hc⟩
    have HS6 : Hid (Dr w C [⟨w.heap.size, 28, enCells enNil⟩, ⟨B1, 28, enCells ⟨l, 2, 0, 0, 0, 0, chNil, emptyS⟩⟩] w7) := (HS5.out).draws hb hc
    clear hb hc
    clear HS5
    have x2 : x ≤ 5 - 1 := by omega
    go_wp2_with fail
    refine (next_any C 9 _ (HS6.out).codes (by omega)).mono ?_
    rintro e w8 ⟨y, rfl, y0, y1, hb, hc⟩
    have HS7 : Hid (Dr w C [⟨w.heap.size, 28, enCells enNil⟩, ⟨B1, 28, enCells ⟨l, 2, 0, 0, 0, 0, chNil, emptyS⟩⟩] w8) := (HS6.out).draws hb hc
    clear hb hc
    clear HS6
    have y2 : y ≤ 9 - 1 := by omega
    go_wp2_with fail
    refine (next_any C 10 _ (HS7.out).codes (by omega)).mono ?_
    rintro e w9 ⟨g, rfl, g0, g1, hb, hc⟩
    have HS8 : Hid (Dr w C [⟨w.heap.size, 28, enCells enNil⟩, ⟨B1, 28, enCells ⟨l, 2, 0, 0, 0, 0, chNil, emptyS⟩⟩] w9) := (HS7.out).draws hb hc
    clear hb hc
    clear HS7
    have g2 : g ≤ 10 - 1 := by omega
    go_wp2_with fail
    refine (change_any C _ (HS8.out).codes).mono ?_
    rintro e w10 ⟨c, rfl, hch, hb, hc⟩
    have HS9 : Hid (Dr w C [⟨w.heap.size, 28, enCells enNil⟩, ⟨B1, 28, enCells ⟨l, 2, 0, 0, 0, 0, chNil, emptyS⟩⟩] w10) := (HS8.out).draws hb hc
    clear hb hc
    clear HS8
    have HCh := Lib.hid hch
    clear hch
    go_upto_region 6 with (first | ((with_reducible refine wpList_store_fld 3 (.tmp 26) (.tmp 18) B1 2 (.int .i64 (1 + x)) ([.int .i64 (1 + x)]) (enCells ⟨l, 2, 0, 0, 0, 0, chNil, emptyS⟩) (enCells ⟨l, 2, (1 + x), 0, 0, 0, chNil, emptyS⟩) 28 ?_ ?_ ?_ ?_ ?_ ?_ ?_ ?_ ?_); (exact rfl); (exact rfl); (exact rfl); (exact (HS9.out).get 1 rfl); (exact (Nat.le_of_ble_eq_true rfl)); (exact info_int1); (exact (one_int _ _)); (exact rfl); skip) | ((with_reducible refine wpList_store_fld 3 (.tmp 27) (.tmp 21) B1 3 (.int .i64 (1 + y)) ([.int .i64 (1 + y)]) (enCells ⟨l, 2, (1 + x), 0, 0, 0, chNil, emptyS⟩) (enCells ⟨l, 2, (1 + x), (1 + y), 0, 0, chNil, emptyS⟩) 28 ?_ ?_ ?_ ?_ ?_ ?_ ?_ ?_ ?_); (exact rfl); (exact rfl); (exact rfl); (exact ((HS9.out).row 1 rfl (enCells ⟨l, 2, (1 + x), 0, 0, 0, chNil, emptyS⟩)).get 1 rfl); (exact (Nat.le_of_ble_eq_true rfl)); (exact info_int1); (exact (one_int _ _)); (exact rfl); skip) | ((with_reducible refine wpList_store_fld 3 (.tmp 28) (.tmp 23) B1 4 (.int .i64 g) ([.int .i64 g]) (enCells ⟨l, 2, (1 + x), (1 + y), 0, 0, chNil, emptyS⟩) (enCells ⟨l, 2, (1 + x), (1 + y), g, 0, chNil, emptyS⟩) 28 ?_ ?_ ?_ ?_ ?_ ?_ ?_ ?_ ?_); (exact rfl); (exact rfl); (exact rfl); (exact (((HS9.out).row 1 rfl (enCells ⟨l, 2, (1 + x), 0, 0, 0, chNil, emptyS⟩)).row 1 rfl (enCells ⟨l, 2, (1 + x), (1 + y), 0, 0, chNil, emptyS⟩)).get 1 rfl); (exact (Nat.le_of_ble_eq_true rfl)); (exact info_int1); (exact (one_int _ _)); (exact rfl); skip) | ((with_reducible refine wpList_store_fld 26 (.tmp 29) (.tmp 25) B1 6 (.agg (chCells c).toArray) (chCells c) (enCells ⟨l, 2, (1 + x), (1 + y), g, 0, chNil, emptyS⟩) (enCells ⟨l, 2, (1 + x), (1 + y), g, 0, c, emptyS⟩) 28 ?_ ?_ ?_ ?_ ?_ ?_ ?_ ?_ ?_); (exact rfl); (exact rfl); (exact rfl); (exact ((((HS9.out).row 1 rfl (enCells ⟨l, 2, (1 + x), 0, 0, 0, chNil, emptyS⟩)).row 1 rfl (enCells ⟨l, 2, (1 + x), (1 + y), 0, 0, chNil, emptyS⟩)).row 1 rfl (enCells ⟨l, 2, (1 + x), (1 + y), g, 0, chNil, emptyS⟩)).get 1 rfl); (exact (Nat.le_of_ble_eq_true rfl)); (exact info_ch); (exact (oneCell_ch _)); (exact rfl); skip))
    have HS10 : Hid (Dr w C [⟨w.heap.size, 28, enCells enNil⟩, ⟨B1, 28, enCells ⟨l, 2, (1 + x), (1 + y), g, 0, c, emptyS⟩⟩] ((((w10.setRow B1 (enCells ⟨l, 2, (1 + x), 0, 0, 0, chNil, emptyS⟩).toArray).setRow B1 (enCells ⟨l, 2, (1 + x), (1 + y), 0, 0, chNil, emptyS⟩).toArray).setRow B1 (enCells ⟨l, 2, (1 + x), (1 + y), g, 0, chNil, emptyS⟩).toArray).setRow B1 (enCells ⟨l, 2, (1 + x), (1 + y), g, 0, c, emptyS⟩).toArray)) := ((((HS9.out).row 1 rfl (enCells ⟨l, 2, (1 + x), 0, 0, 0, chNil, emptyS⟩)).row 1 rfl (enCells ⟨l, 2, (1 + x), (1 + y), 0, 0, chNil, emptyS⟩)).row 1 rfl (enCells ⟨l, 2, (1 + x), (1 + y), g, 0, chNil, emptyS⟩)).row 1 rfl (enCells ⟨l, 2, (1 + x), (1 + y), g, 0, c, emptyS⟩)
    clear HS9
    generalize ((((w10.setRow B1 (enCells ⟨l, 2, (1 + x), 0, 0, 0, chNil, emptyS⟩).toArray).setRow B1 (enCells ⟨l, 2, (1 + x), (1 + y), 0, 0, chNil, emptyS⟩).toArray).setRow B1 (enCells ⟨l, 2, (1 + x), (1 + y), g, 0, chNil, emptyS⟩).toArray).setRow B1 (enCells ⟨l, 2, (1 + x), (1 + y), g, 0, c, emptyS⟩).toArray) = w11 at *
    clear c1
    have c1 : w11.cell? ⟨B1, 1, none⟩ = some (.int .i64 2) := (HS10.out).cellat 1 rfl 1 rfl
    have c3 : w11.cell? ⟨B1, 3, none⟩ = some (.int .i64 ((1 + y))) := (HS10.out).cellat 1 rfl 3 rfl
    go_wp2_with fail
    refine (next_any C (1 + y) _ (HS10.out).codes (by omega)).mono ?_
    rintro e w12 ⟨z, rfl, z0, z1, hb, hc⟩
    have HS11 : Hid (Dr w C [⟨w.heap.size, 28, enCells enNil⟩, ⟨B1, 28, enCells ⟨l, 2, (1 + x), (1 + y), g, 0, c, emptyS⟩⟩] w12) := (HS10.out).draws hb hc
    clear hb hc
    clear HS10
    have z2 : z + 1 ≤ (1 + y) := by omega
    go_upto_region 17 with (first | ((with_reducible refine wpList_store_fld 3 (.tmp 38) (.tmp 37) B1 5 (.int .i64 (1 + z)) ([.int .i64 (1 + z)]) (enCells ⟨l, 2, (1 + x), (1 + y), g, 0, c, emptyS⟩) (enCells ⟨l, 2, (1 + x), (1 + y), g, (1 + z), c, emptyS⟩) 28 ?_ ?_ ?_ ?_ ?_ ?_ ?_ ?_ ?_); (exact rfl); (exact rfl); (exact rfl); (exact (HS11.out).get 1 rfl); (exact (Nat.le_of_ble_eq_true rfl)); (exact info_int1); (exact (one_int _ _)); (exact rfl); skip))
    have HS12 : Hid (Dr w C [⟨w.heap.size, 28, enCells enNil⟩, ⟨B1, 28, enCells ⟨l, 2, (1 + x), (1 + y), g, (1 + z), c, emptyS⟩⟩] (w12.setRow B1 (enCells ⟨l, 2, (1 + x), (1 + y), g, (1 + z), c, emptyS⟩).toArray)) := (HS11.out).row 1 rfl (enCells ⟨l, 2, (1 + x), (1 + y), g, (1 + z), c, emptyS⟩)
    clear HS11
    generalize (w12.setRow B1 (enCells ⟨l, 2, (1 + x), (1 + y), g, (1 + z), c, emptyS⟩).toArray) = w13 at *
    clear c1 c3
    go_wp2_with (first | ((with_reducible refine wpList_load_ob 28 (.tmp 3) B1 (enCells ⟨l, 2, (1 + x), (1 + y), g, (1 + z), c, emptyS⟩) 28 HUE.out ?_ ?_ ?_ ?_ ?_); (exact rfl); (exact (HS12.out).get 1 rfl); (exact rfl); (exact info_en); simp only [Act.put, List.setIfInBounds_toArray, List.set_cons_zero, List.set_cons_succ]) | ((with_reducible refine wpList_store_ob 28 (.tmp 2) (w.heap.size) (enCells ⟨l, 2, (1 + x), (1 + y), g, (1 + z), c, emptyS⟩) (enCells enNil) 28 ?_ ?_ ?_ ?_ ?_ ?_ ?_); (exact rfl); (exact rfl); (exact (HS12.out).get 0 rfl); (exact info_en); (exact rfl); (exact (oneCell_en _)); skip))
    have HS13 : Hid (Dr w C [⟨w.heap.size, 28, enCells ⟨l, 2, (1 + x), (1 + y), g, (1 + z), c, emptyS⟩⟩, ⟨B1, 28, enCells ⟨l, 2, (1 + x), (1 + y), g, (1 + z), c, emptyS⟩⟩] (w13.setRow (w.heap.size) (enCells ⟨l, 2, (1 + x), (1 + y), g, (1 + z), c, emptyS⟩).toArray)) := (HS12.out).row 0 rfl (enCells ⟨l, 2, (1 + x), (1 + y), g, (1 + z), c, emptyS⟩)
    clear HS12
    generalize (w13.setRow (w.heap.size) (enCells ⟨l, 2, (1 + x), (1 + y), g, (1 + z), c, emptyS⟩).toArray) = w14 at *
    refine bodyPost_ret (results_ob Try.results10 _ _ (w.heap.size) (enCells ⟨l, 2, (1 + x), (1 + y), g, (1 + z), c, emptyS⟩) 28 _ rfl ((HS13.out).get 0 rfl) HUE.out rfl info_en) rfl ?_
    exact ⟨_, rfl, Lib.hid (drawn_2 HL.out (by omega) (by omega) (by omega) (by omega) HCh.out), (HS13.out).bes, (HS13.out).codes⟩
  ·
    have c1 : w6.cell? ⟨B1, 1, none⟩ = some (.int .i64 3) := (HS5.out).cellat 1 rfl 1 rfl
    go_wp2_with fail
    refine (next_any C 5 _ (HS5.out).codes (by omega)).mono ?_
    rintro e w7 ⟨x, rfl, x0, x1, hb, hc⟩
    have HS6 : Hid (Dr w C [⟨w.heap.size, 28, enCells enNil⟩, ⟨B1, 28, enCells ⟨l, 3, 0, 0, 0, 0, chNil, emptyS⟩⟩] w7) := (HS5.out).draws hb hc
    clear hb hc
    clear HS5
    have x2 : x ≤ 5 - 1 := by omega
    go_wp2_with fail
    refine (next_any C 9 _ (HS6.out).codes (by omega)).mono ?_
    rintro e w8 ⟨y, rfl, y0, y1, hb, hc⟩
    have HS7 : Hid (Dr w C [⟨w.heap.size, 28, enCells enNil⟩, ⟨B1, 28, enCells ⟨l, 3, 0, 0, 0, 0, chNil, emptyS⟩⟩] w8) := (HS6.out).draws hb hc
    clear hb hc
    clear HS6
    have y2 : y ≤ 9 - 1 := by omega
    go_upto_region 17 with (first | ((with_reducible refine wpList_store_fld 3 (.tmp 49) (.tmp 45) B1 2 (.int .i64 (1 + x)) ([.int .i64 (1 + x)]) (enCells ⟨l, 3, 0, 0, 0, 0, chNil, emptyS⟩) (enCells ⟨l, 3, (1 + x), 0, 0, 0, chNil, emptyS⟩) 28 ?_ ?_ ?_ ?_ ?_ ?_ ?_ ?_ ?_); (exact rfl); (exact rfl); (exact rfl); (exact (HS7.out).get 1 rfl); (exact (Nat.le_of_ble_eq_true rfl)); (exact info_int1); (exact (one_int _ _)); (exact rfl); skip) | ((with_reducible refine wpList_store_fld 3 (.tmp 50) (.tmp 48) B1 3 (.int .i64 (1 + y)) ([.int .i64 (1 + y)]) (enCells ⟨l, 3, (1 + x), 0, 0, 0, chNil, emptyS⟩) (enCells ⟨l, 3, (1 + x), (1 + y), 0, 0, chNil, emptyS⟩) 28 ?_ ?_ ?_ ?_ ?_ ?_ ?_ ?_ ?_); (exact rfl); (exact rfl); (exact rfl); (exact ((HS7.out).row 1 rfl (enCells ⟨l, 3, (1 + x), 0, 0, 0, chNil, emptyS⟩)).get 1 rfl); (exact (Nat.le_of_ble_eq_true rfl)); (exact info_int1); (exact (one_int _ _)); (exact rfl); skip))
    have HS8 : Hid (Dr w C [⟨w.heap.size, 28, enCells enNil⟩, ⟨B1, 28, enCells ⟨l, 3, (1 + x), (1 + y), 0, 0, chNil, emptyS⟩⟩] ((w8.setRow B1 (enCells ⟨l, 3, (1 + x), 0, 0, 0, chNil, emptyS⟩).toArray).setRow B1 (enCells ⟨l, 3, (1 + x), (1 + y), 0, 0, chNil, emptyS⟩).toArray)) := ((HS7.out).row 1 rfl (enCells ⟨l, 3, (1 + x), 0, 0, 0, chNil, emptyS⟩)).row 1 rfl (enCells ⟨l, 3, (1 + x), (1 + y), 0, 0, chNil, emptyS⟩)
    clear HS7
    generalize ((w8.setRow B1 (enCells ⟨l, 3, (1 + x), 0, 0, 0, chNil, emptyS⟩).toArray).setRow B1 (enCells ⟨l, 3, (1 + x), (1 + y), 0, 0, chNil, emptyS⟩).toArray) = w9 at *
    clear c1
    go_wp2_with (first | ((with_reducible refine wpList_load_ob 28 (.tmp 3) B1 (enCells ⟨l, 3, (1 + x), (1 + y), 0, 0, chNil, emptyS⟩) 28 HUE.out ?_ ?_ ?_ ?_ ?_); (exact rfl); (exact (HS8.out).get 1 rfl); (exact rfl); (exact info_en); simp only [Act.put, List.setIfInBounds_toArray, List.set_cons_zero, List.set_cons_succ]) | ((with_reducible refine wpList_store_ob 28 (.tmp 2) (w.heap.size) (enCells ⟨l, 3, (1 + x), (1 + y), 0, 0, chNil, emptyS⟩) (enCells enNil) 28 ?_ ?_ ?_ ?_ ?_ ?_ ?_); (exact rfl); (exact rfl); (exact (HS8.out).get 0 rfl); (exact info_en); (exact rfl); (exact (oneCell_en _)); skip))
    have HS9 : Hid (Dr w C [⟨w.heap.size, 28, enCells ⟨l, 3, (1 + x), (1 + y), 0, 0, chNil, emptyS⟩⟩, ⟨B1, 28, enCells ⟨l, 3, (1 + x), (1 + y), 0, 0, chNil, emptyS⟩⟩] (w9.setRow (w.heap.size) (enCells ⟨l, 3, (1 + x), (1 + y), 0, 0, chNil, emptyS⟩).toArray)) := (HS8.out).row 0 rfl (enCells ⟨l, 3, (1 + x), (1 + y), 0, 0, chNil, emptyS⟩)
    clear HS8
    generalize (w9.setRow (w.heap.size) (enCells ⟨l, 3, (1 + x), (1 + y), 0, 0, chNil, emptyS⟩).toArray) = w10 at *
    refine bodyPost_ret (results_ob Try.results10 _ _ (w.heap.size) (enCells ⟨l, 3, (1 + x), (1 + y), 0, 0, chNil, emptyS⟩) 28 _ rfl ((HS9.out).get 0 rfl) HUE.out rfl info_en) rfl ?_
    exact ⟨_, rfl, Lib.hid (drawn_3 HL.out (by omega) (by omega) (by omega)), (HS9.out).bes, (HS9.out).codes⟩
  ·
    have c1 : w6.cell? ⟨B1, 1, none⟩ = some (.int .i64 4) := (HS5.out).cellat 1 rfl 1 rfl
    go_wp2_with fail
    refine (next_any C 5 _ (HS5.out).codes (by omega)).mono ?_
    rintro e w7 ⟨x, rfl, x0, x1, hb, hc⟩
    have HS6 : Hid (Dr w C [⟨w.heap.size, 28, enCells enNil⟩, ⟨B1, 28, enCells ⟨l, 4, 0, 0, 0, 0, chNil, emptyS⟩⟩] w7) := (HS5.out).draws hb hc
    clear hb hc
    clear HS5
    have x2 : x ≤ 5 - 1 := by omega
    go_wp2_with fail
    refine (next_any C 9 _ (HS6.out).codes (by omega)).mono ?_
    rintro e w8 ⟨y, rfl, y0, y1, hb, hc⟩
    have HS7 : Hid (Dr w C [⟨w.heap.size, 28, enCells enNil⟩, ⟨B1, 28, enCells ⟨l, 4, 0, 0, 0, 0, chNil, emptyS⟩⟩] w8) := (HS6.out).draws hb hc
    clear hb hc
    clear HS6
    have y2 : y ≤ 9 - 1 := by omega
    go_upto_region 17 with (first | ((with_reducible refine wpList_store_fld 3 (.tmp 49) (.tmp 45) B1 2 (.int .i64 (1 + x)) ([.int .i64 (1 + x)]) (enCells ⟨l, 4, 0, 0, 0, 0, chNil, emptyS⟩) (enCells ⟨l, 4, (1 + x), 0, 0, 0, chNil, emptyS⟩) 28 ?_ ?_ ?_ ?_ ?_ ?_ ?_ ?_ ?_); (exact rfl); (exact rfl); (exact rfl); (exact (HS7.out).get 1 rfl); (exact (Nat.le_of_ble_eq_true rfl)); (exact info_int1); (exact (one_int _ _)); (exact rfl); skip) | ((with_reducible refine wpList_store_fld 3 (.tmp 50) (.tmp 48) B1 3 (.int .i64 (1 + y)) ([.int .i64 (1 + y)]) (enCells ⟨l, 4, (1 + x), 0, 0, 0, chNil, emptyS⟩) (enCells ⟨l, 4, (1 + x), (1 + y), 0, 0, chNil, emptyS⟩) 28 ?_ ?_ ?_ ?_ ?_ ?_ ?_ ?_ ?_); (exact rfl); (exact rfl); (exact rfl); (exact ((HS7.out).row 1 rfl (enCells ⟨l, 4, (1 + x), 0, 0, 0, chNil, emptyS⟩)).get 1 rfl); (exact (Nat.le_of_ble_eq_true rfl)); (exact info_int1); (exact (one_int _ _)); (exact rfl); skip))
    have HS8 : Hid (Dr w C [⟨w.heap.size, 28, enCells enNil⟩, ⟨B1, 28, enCells ⟨l, 4, (1 + x), (1 + y), 0, 0, chNil, emptyS⟩⟩] ((w8.setRow B1 (enCells ⟨l, 4, (1 + x), 0, 0, 0, chNil, emptyS⟩).toArray).setRow B1 (enCells ⟨l, 4, (1 + x), (1 + y), 0, 0, chNil, emptyS⟩).toArray)) := ((HS7.out).row 1 rfl (enCells ⟨l, 4, (1 + x), 0, 0, 0, chNil, emptyS⟩)).row 1 rfl (enCells ⟨l, 4, (1 + x), (1 + y), 0, 0, chNil, emptyS⟩)
    clear HS7
    generalize ((w8.setRow B1 (enCells ⟨l, 4, (1 + x), 0, 0, 0, chNil, emptyS⟩).toArray).setRow B1 (enCells ⟨l, 4, (1 + x), (1 + y), 0, 0, chNil, emptyS⟩).toArray) = w9 at *
    clear c1
    go_wp2_with (first | ((with_reducible refine wpList_load_ob 28 (.tmp 3) B1 (enCells ⟨l, 4, (1 + x), (1 + y), 0, 0, chNil, emptyS⟩) 28 HUE.out ?_ ?_ ?_ ?_ ?_); (exact rfl); (exact (HS8.out).get 1 rfl); (exact rfl); (exact info_en); simp only [Act.put, List.setIfInBounds_toArray, List.set_cons_zero, List.set_cons_succ]) | ((with_reducible refine wpList_store_ob 28 (.tmp 2) (w.heap.size) (enCells ⟨l, 4, (1 + x), (1 + y), 0, 0, chNil, emptyS⟩) (enCells enNil) 28 ?_ ?_ ?_ ?_ ?_ ?_ ?_); (exact rfl); (exact rfl); (exact (HS8.out).get 0 rfl); (exact info_en); (exact rfl); (exact (oneCell_en _)); skip))
    have HS9 : Hid (Dr w C [⟨w.heap.size, 28, enCells ⟨l, 4, (1 + x), (1 + y), 0, 0, chNil, emptyS⟩⟩, ⟨B1, 28, enCells ⟨l, 4, (1 + x), (1 + y), 0, 0, chNil, emptyS⟩⟩] (w9.setRow (w.heap.size) (enCells ⟨l, 4, (1 + x), (1 + y), 0, 0, chNil, emptyS⟩).toArray)) := (HS8.out).row 0 rfl (enCells ⟨l, 4, (1 + x), (1 + y), 0, 0, chNil, emptyS⟩)
    clear HS8
    generalize (w9.setRow (w.heap.size) (enCells ⟨l, 4, (1 + x), (1 + y), 0, 0, chNil, emptyS⟩).toArray) = w10 at *
    refine bodyPost_ret (results_ob Try.results10 _ _ (w.heap.size) (enCells ⟨l, 4, (1 + x), (1 + y), 0, 0, chNil, emptyS⟩) 28 _ rfl ((HS9.out).get 0 rfl) HUE.out rfl info_en) rfl ?_
    exact ⟨_, rfl, Lib.hid (drawn_3 HL.out (by omega) (by omega) (by omega)), (HS9.out).bes, (HS9.out).codes⟩
  ·
    have c1 : w6.cell? ⟨B1, 1, none⟩ = some (.int .i64 5) := (HS5.out).cellat 1 rfl 1 rfl
    go_wp2_with fail
    refine (next_any C 5 _ (HS5.out).codes (by omega)).mono ?_
    rintro e w7 ⟨x, rfl, x0, x1, hb, hc⟩
    have HS6 : Hid (Dr w C [⟨w.heap.size, 28, enCells enNil⟩, ⟨B1, 28, enCells ⟨l, 5, 0, 0, 0, 0, chNil, emptyS⟩⟩] w7) := (HS5.out).draws hb hc
    clear hb hc
    clear HS5
    have x2 : x ≤ 5 - 1 := by omega
    go_wp2_with fail
    refine (next_any C 9 _ (HS6.out).codes (by omega)).mono ?_
    rintro e w8 ⟨y, rfl, y0, y1, hb, hc⟩
    have HS7 : Hid (Dr w C [⟨w.heap.size, 28, enCells enNil⟩, ⟨B1, 28, enCells ⟨l, 5, 0, 0, 0, 0, chNil, emptyS⟩⟩] w8) := (HS6.out).draws hb hc
    clear hb hc
    clear HS6
    have y2 : y ≤ 9 - 1 := by omega
    go_upto_region 17 with (first | ((with_reducible refine wpList_store_fld 3 (.tmp 49) (.tmp 45) B1 2 (.int .i64 (1 + x)) ([.int .i64 (1 + x)]) (enCells ⟨l, 5, 0, 0, 0, 0, chNil, emptyS⟩) (enCells ⟨l, 5, (1 + x), 0, 0, 0, chNil, emptyS⟩) 28 ?_ ?_ ?_ ?_ ?_ ?_ ?_ ?_ ?_); (exact rfl); (exact rfl); (exact rfl); (exact (HS7.out).get 1 rfl); (exact (Nat.le_of_ble_eq_true rfl)); (exact info_int1); (exact (one_int _ _)); (exact rfl); skip) | ((with_reducible refine wpList_store_fld 3 (.tmp 50) (.tmp 48) B1 3 (.int .i64 (1 + y)) ([.int .i64 (1 + y)]) (enCells ⟨l, 5, (1 + x), 0, 0, 0, chNil, emptyS⟩) (enCells ⟨l, 5, (1 + x), (1 + y), 0, 0, chNil, emptyS⟩) 28 ?_ ?_ ?_ ?_ ?_ ?_ ?_ ?_ ?_); (exact rfl); (exact rfl); (exact rfl); (exact ((HS7.out).row 1 rfl (enCells ⟨l, 5, (1 + x), 0, 0, 0, chNil, emptyS⟩)).get 1 rfl); (exact (Nat.le_of_ble_eq_true rfl)); (exact info_int1); (exact (one_int _ _)); (exact rfl); skip))
    have HS8 : Hid (Dr w C [⟨w.heap.size, 28, enCells enNil⟩, ⟨B1, 28, enCells ⟨l, 5, (1 + x), (1 + y), 0, 0, chNil, emptyS⟩⟩] ((w8.setRow B1 (enCells ⟨l, 5, (1 + x), 0, 0, 0, chNil, emptyS⟩).toArray).setRow B1 (enCells ⟨l, 5, (1 + x), (1 + y), 0, 0, chNil, emptyS⟩).toArray)) := ((HS7.out).row 1 rfl (enCells ⟨l, 5, (1 + x), 0, 0, 0, chNil, emptyS⟩)).row 1 rfl (enCells ⟨l, 5, (1 + x), (1 + y), 0, 0, chNil, emptyS⟩)
    clear HS7
    generalize ((w8.setRow B1 (enCells ⟨l, 5, (1 + x), 0, 0, 0, chNil, emptyS⟩).toArray).setRow B1 (enCells ⟨l, 5, (1 + x), (1 + y), 0, 0, chNil, emptyS⟩).toArray) = w9 at *
    clear c1
    go_wp2_with (first | ((with_reducible refine wpList_load_ob 28 (.tmp 3) B1 (enCells ⟨l, 5, (1 + x), (1 + y), 0, 0, chNil, emptyS⟩) 28 HUE.out ?_ ?_ ?_ ?_ ?_); (exact rfl); (exact (HS8.out).get 1 rfl); (exact rfl); (exact info_en); simp only [Act.put, List.setIfInBounds_toArray, List.set_cons_zero, List.set_cons_succ]) | ((with_reducible refine wpList_store_ob 28 (.tmp 2) (w.heap.size) (enCells ⟨l, 5, (1 + x), (1 + y), 0, 0, chNil, emptyS⟩) (enCells enNil) 28 ?_ ?_ ?_ ?_ ?_ ?_ ?_); (exact rfl); (exact rfl); (exact (HS8.out).get 0 rfl); (exact info_en); (exact rfl); (exact (oneCell_en _)); skip))
    have HS9 : Hid (Dr w C [⟨w.heap.size, 28, enCells ⟨l, 5, (1 + x), (1 + y), 0, 0, chNil, emptyS⟩⟩, ⟨B1, 28, enCells ⟨l, 5, (1 + x), (1 + y), 0, 0, chNil, emptyS⟩⟩] (w9.setRow (w.heap.size) (enCells ⟨l, 5, (1 + x), (1 + y), 0, 0, chNil, emptyS⟩).toArray)) := (HS8.out).row 0 rfl (enCells ⟨l, 5, (1 + x), (1 + y), 0, 0, chNil, emptyS⟩)
    clear HS8
    generalize (w9.setRow (w.heap.size) (enCells ⟨l, 5, (1 + x), (1 + y), 0, 0, chNil, emptyS⟩).toArray) = w10 at *
    refine bodyPost_ret (results_ob Try.results10 _ _ (w.heap.size) (enCells ⟨l, 5, (1 + x), (1 + y), 0, 0, chNil, emptyS⟩) 28 _ rfl ((HS9.out).get 0 rfl) HUE.out rfl info_en) rfl ?_
    exact ⟨_, rfl, Lib.hid (drawn_3 HL.out (by omega) (by omega) (by omega)), (HS9.out).bes, (HS9.out).codes⟩
  ·
    have c1 : w6.cell? ⟨B1, 1, none⟩ = some (.int .i64 6) := (HS5.out).cellat 1 rfl 1 rfl
    go_wp2_with fail
    refine (data_any C _ (HS5.out).codes).mono ?_
    rintro e w7 ⟨d, rfl, hd, hb, hc⟩
    have HS6 : Hid (Dr w C [⟨w.heap.size, 28, enCells enNil⟩, ⟨B1, 28, enCells ⟨l, 6, 0, 0, 0, 0, chNil, emptyS⟩⟩] w7) := (HS5.out).draws hb hc
    clear hb hc
    clear HS5
    have HDd := Lib.hid hd
    clear hd
    go_upto_region 17 with (first | ((with_reducible refine wpList_store_fld 9 (.tmp 56) (.tmp 55) B1 12 (.string d) ([.string d]) (enCells ⟨l, 6, 0, 0, 0, 0, chNil, emptyS⟩) (enCells ⟨l, 6, 0, 0, 0, 0, chNil, d⟩) 28 ?_ ?_ ?_ ?_ ?_ ?_ ?_ ?_ ?_); (exact rfl); (exact rfl); (exact rfl); (exact (HS6.out).get 1 rfl); (exact (Nat.le_of_ble_eq_true rfl)); (exact info_str1); (exact (one_str _)); (exact rfl); skip))
    have HS7 : Hid (Dr w C [⟨w.heap.size, 28, enCells enNil⟩, ⟨B1, 28, enCells ⟨l, 6, 0, 0, 0, 0, chNil, d⟩⟩] (w7.setRow B1 (enCells ⟨l, 6, 0, 0, 0, 0, chNil, d⟩).toArray)) := (HS6.out).row 1 rfl (enCells ⟨l, 6, 0, 0, 0, 0, chNil, d⟩)
    clear HS6
    generalize (w7.setRow B1 (enCells ⟨l, 6, 0, 0, 0, 0, chNil, d⟩).toArray) = w8 at *
    clear c1
    go_wp2_with (first | ((with_reducible refine wpList_load_ob 28 (.tmp 3) B1 (enCells ⟨l, 6, 0, 0, 0, 0, chNil, d⟩) 28 HUE.out ?_ ?_ ?_ ?_ ?_); (exact rfl); (exact (HS7.out).get 1 rfl); (exact rfl); (exact info_en); simp only [Act.put, List.setIfInBounds_toArray, List.set_cons_zero, List.set_cons_succ]) | ((with_reducible refine wpList_store_ob 28 (.tmp 2) (w.heap.size) (enCells ⟨l, 6, 0, 0, 0, 0, chNil, d⟩) (enCells enNil) 28 ?_ ?_ ?_ ?_ ?_ ?_ ?_); (exact rfl); (exact rfl); (exact (HS7.out).get 0 rfl); (exact info_en); (exact rfl); (exact (oneCell_en _)); skip))
    have HS8 : Hid (Dr w C [⟨w.heap.size, 28, enCells ⟨l, 6, 0, 0, 0, 0, chNil, d⟩⟩, ⟨B1, 28, enCells ⟨l, 6, 0, 0, 0, 0, chNil, d⟩⟩] (w8.setRow (w.heap.size) (enCells ⟨l, 6, 0, 0, 0, 0, chNil, d⟩).toArray)) := (HS7.out).row 0 rfl (enCells ⟨l, 6, 0, 0, 0, 0, chNil, d⟩)
    clear HS7
    generalize (w8.setRow (w.heap.size) (enCells ⟨l, 6, 0, 0, 0, 0, chNil, d⟩).toArray) = w9 at *
    refine bodyPost_ret (results_ob Try.results10 _ _ (w.heap.size) (enCells ⟨l, 6, 0, 0, 0, 0, chNil, d⟩) 28 _ rfl ((HS8.out).get 0 rfl) HUE.out rfl info_en) rfl ?_
    exact ⟨_, rfl, Lib.hid (drawn_6 HL.out (by omega) HDd.out), (HS8.out).bes, (HS8.out).codes⟩
  ·
    have c1 : w6.cell? ⟨B1, 1, none⟩ = some (.int .i64 7) := (HS5.out).cellat 1 rfl 1 rfl
    go_wp2_with fail
    refine (next_any C 4 _ (HS5.out).codes (by omega)).mono ?_
    rintro e w7 ⟨x, rfl, x0, x1, hb, hc⟩
    have HS6 : Hid (Dr w C [⟨w.heap.size, 28, enCells enNil⟩, ⟨B1, 28, enCells ⟨l, 7, 0, 0, 0, 0, chNil, emptyS⟩⟩] w7) := (HS5.out).draws hb hc
    clear hb hc
    clear HS5
    have x2 : x ≤ 4 - 1 := by omega
    go_wp2_with fail
    refine (next_any C 10 _ (HS6.out).codes (by omega)).mono ?_
    rintro e w8 ⟨y, rfl, y0, y1, hb, hc⟩
    have HS7 : Hid (Dr w C [⟨w.heap.size, 28, enCells enNil⟩, ⟨B1, 28, enCells ⟨l, 7, 0, 0, 0, 0, chNil, emptyS⟩⟩] w8) := (HS6.out).draws hb hc
    clear hb hc
    clear HS6
    have y2 : y ≤ 10 - 1 := by omega
    go_upto_region 17 with (first | ((with_reducible refine wpList_store_fld 3 (.tmp 64) (.tmp 60) B1 6 (.int .i64 x) ([.int .i64 x]) (enCells ⟨l, 7, 0, 0, 0, 0, chNil, emptyS⟩) (enCells ⟨l, 7, 0, 0, 0, 0, ⟨x, 0, emptyCl, emptyCl⟩, emptyS⟩) 28 ?_ ?_ ?_ ?_ ?_ ?_ ?_ ?_ ?_); (exact rfl); (exact rfl); (exact rfl); (exact (HS7.out).get 1 rfl); (exact (Nat.le_of_ble_eq_true rfl)); (exact info_int1); (exact (one_int _ _)); (exact rfl); skip) | ((with_reducible refine wpList_store_fld 3 (.tmp 65) (.tmp 62) B1 5 (.int .i64 y) ([.int .i64 y]) (enCells ⟨l, 7, 0, 0, 0, 0, ⟨x, 0, emptyCl, emptyCl⟩, emptyS⟩) (enCells ⟨l, 7, 0, 0, 0, y, ⟨x, 0, emptyCl, emptyCl⟩, emptyS⟩) 28 ?_ ?_ ?_ ?_ ?_ ?_ ?_ ?_ ?_); (exact rfl); (exact rfl); (exact rfl); (exact ((HS7.out).row 1 rfl (enCells ⟨l, 7, 0, 0, 0, 0, ⟨x, 0, emptyCl, emptyCl⟩, emptyS⟩)).get 1 rfl); (exact (Nat.le_of_ble_eq_true rfl)); (exact info_int1); (exact (one_int _ _)); (exact rfl); skip))
    have HS8 : Hid (Dr w C [⟨w.heap.size, 28, enCells enNil⟩, ⟨B1, 28, enCells ⟨l, 7, 0, 0, 0, y, ⟨x, 0, emptyCl, emptyCl⟩, emptyS⟩⟩] ((w8.setRow B1 (enCells ⟨l, 7, 0, 0, 0, 0, ⟨x, 0, emptyCl, emptyCl⟩, emptyS⟩).toArray).setRow B1 (enCells ⟨l, 7, 0, 0, 0, y, ⟨x, 0, emptyCl, emptyCl⟩, emptyS⟩).toArray)) := ((HS7.out).row 1 rfl (enCells ⟨l, 7, 0, 0, 0, 0, ⟨x, 0, emptyCl, emptyCl⟩, emptyS⟩)).row 1 rfl (enCells ⟨l, 7, 0, 0, 0, y, ⟨x, 0, emptyCl, emptyCl⟩, emptyS⟩)
    clear HS7
    generalize ((w8.setRow B1 (enCells ⟨l, 7, 0, 0, 0, 0, ⟨x, 0, emptyCl, emptyCl⟩, emptyS⟩).toArray).setRow B1 (enCells ⟨l, 7, 0, 0, 0, y, ⟨x, 0, emptyCl, emptyCl⟩, emptyS⟩).toArray) = w9 at *
    clear c1
    go_wp2_with (first | ((with_reducible refine wpList_load_ob 28 (.tmp 3) B1 (enCells ⟨l, 7, 0, 0, 0, y, ⟨x, 0, emptyCl, emptyCl⟩, emptyS⟩) 28 HUE.out ?_ ?_ ?_ ?_ ?_); (exact rfl); (exact (HS8.out).get 1 rfl); (exact rfl); (exact info_en); simp only [Act.put, List.setIfInBounds_toArray, List.set_cons_zero, List.set_cons_succ]) | ((with_reducible refine wpList_store_ob 28 (.tmp 2) (w.heap.size) (enCells ⟨l, 7, 0, 0, 0, y, ⟨x, 0, emptyCl, emptyCl⟩, emptyS⟩) (enCells enNil) 28 ?_ ?_ ?_ ?_ ?_ ?_ ?_); (exact rfl); (exact rfl); (exact (HS8.out).get 0 rfl); (exact info_en); (exact rfl); (exact (oneCell_en _)); skip))
    have HS9 : Hid (Dr w C [⟨w.heap.size, 28, enCells ⟨l, 7, 0, 0, 0, y, ⟨x, 0, emptyCl, emptyCl⟩, emptyS⟩⟩, ⟨B1, 28, enCells ⟨l, 7, 0, 0, 0, y, ⟨x, 0, emptyCl, emptyCl⟩, emptyS⟩⟩] (w9.setRow (w.heap.size) (enCells ⟨l, 7, 0, 0, 0, y, ⟨x, 0, emptyCl, emptyCl⟩, emptyS⟩).toArray)) := (HS8.out).row 0 rfl (enCells ⟨l, 7, 0, 0, 0, y, ⟨x, 0, emptyCl, emptyCl⟩, emptyS⟩)
    clear HS8
    generalize (w9.setRow (w.heap.size) (enCells ⟨l, 7, 0, 0, 0, y, ⟨x, 0, emptyCl, emptyCl⟩, emptyS⟩).toArray) = w10 at *
    refine bodyPost_ret (results_ob Try.results10 _ _ (w.heap.size) (enCells ⟨l, 7, 0, 0, 0, y, ⟨x, 0, emptyCl, emptyCl⟩, emptyS⟩) 28 _ rfl ((HS9.out).get 0 rfl) HUE.out rfl info_en) rfl ?_
    exact ⟨_, rfl, Lib.hid (drawn_7 HL.out (by omega) (by omega)), (HS9.out).bes, (HS9.out).codes⟩
  ·
    have c1 : w6.cell? ⟨B1, 1, none⟩ = some (.int .i64 8) := (HS5.out).cellat 1 rfl 1 rfl
    go_wp2_with fail
    refine (data_any C _ (HS5.out).codes).mono ?_
    rintro e w7 ⟨d, rfl, hd, hb, hc⟩
    have HS6 : Hid (Dr w C [⟨w.heap.size, 28, enCells enNil⟩, ⟨B1, 28, enCells ⟨l, 8, 0, 0, 0, 0, chNil, emptyS⟩⟩] w7) := (HS5.out).draws hb hc
    clear hb hc
    clear HS5
    have HDd := Lib.hid hd
    clear hd
    go_upto_region 17 with (first | ((with_reducible refine wpList_store_fld 9 (.tmp 56) (.tmp 55) B1 12 (.string d) ([.string d]) (enCells ⟨l, 8, 0, 0, 0, 0, chNil, emptyS⟩) (enCells ⟨l, 8, 0, 0, 0, 0, chNil, d⟩) 28 ?_ ?_ ?_ ?_ ?_ ?_ ?_ ?_ ?_); (exact rfl); (exact rfl); (exact rfl); (exact (HS6.out).get 1 rfl); (exact (Nat.le_of_ble_eq_true rfl)); (exact info_str1); (exact (one_str _)); (exact rfl); skip))
    have HS7 : Hid (Dr w C [⟨w.heap.size, 28, enCells enNil⟩, ⟨B1, 28, enCells ⟨l, 8, 0, 0, 0, 0, chNil, d⟩⟩] (w7.setRow B1 (enCells ⟨l, 8, 0, 0, 0, 0, chNil, d⟩).toArray)) := (HS6.out).row 1 rfl (enCells ⟨l, 8, 0, 0, 0, 0, chNil, d⟩)
    clear HS6
    generalize (w7.setRow B1 (enCells ⟨l, 8, 0, 0, 0, 0, chNil, d⟩).toArray) = w8 at *
    clear c1
    go_wp2_with (first | ((with_reducible refine wpList_load_ob 28 (.tmp 3) B1 (enCells ⟨l, 8, 0, 0, 0, 0, chNil, d⟩) 28 HUE.out ?_ ?_ ?_ ?_ ?_); (exact rfl); (exact (HS7.out).get 1 rfl); (exact rfl); (exact info_en); simp only [Act.put, List.setIfInBounds_toArray, List.set_cons_zero, List.set_cons_succ]) | ((with_reducible refine wpList_store_ob 28 (.tmp 2) (w.heap.size) (enCells ⟨l, 8, 0, 0, 0, 0, chNil, d⟩) (enCells enNil) 28 ?_ ?_ ?_ ?_ ?_ ?_ ?_); (exact rfl); (exact rfl); (exact (HS7.out).get 0 rfl); (exact info_en); (exact rfl); (exact (oneCell_en _)); skip))
    have HS8 : Hid (Dr w C [⟨w.heap.size, 28, enCells ⟨l, 8, 0, 0, 0, 0, chNil, d⟩⟩, ⟨B1, 28, enCells ⟨l, 8, 0, 0, 0, 0, chNil, d⟩⟩] (w8.setRow (w.heap.size) (enCells ⟨l, 8, 0, 0, 0, 0, chNil, d⟩).toArray)) := (HS7.out).row 0 rfl (enCells ⟨l, 8, 0, 0, 0, 0, chNil, d⟩)
    clear HS7
    generalize (w8.setRow (w.heap.size) (enCells ⟨l, 8, 0, 0, 0, 0, chNil, d⟩).toArray) = w9 at *
    refine bodyPost_ret (results_ob Try.results10 _ _ (w.heap.size) (enCells ⟨l, 8, 0, 0, 0, 0, chNil, d⟩) 28 _ rfl ((HS8.out).get 0 rfl) HUE.out rfl info_en) rfl ?_
    exact ⟨_, rfl, Lib.hid (drawn_6 HL.out (by omega) HDd.out), (HS8.out).bes, (HS8.out).codes⟩
def OddEnPost (C : Nat) (w : World) (e : Ending) (w' : World) : Prop := ∃ x : Ent, e = .returned (.agg (enCells x).toArray) ∧ Hid (GoodEn x) ∧ Besides C w w' ∧ CodesOk w' C
theorem int_wf {x : Int} (h0 : -9223372036854775808 ≤ x) (h1 : x ≤ 9223372036854775807) : (Lit.int .i64 x).wf = true := wf_of h0 h1
set_option maxHeartbeats 8000000 in
theorem oddEntry_any (C : Nat) (e : Ent) (w : World) (h : CodesOk w C) (he : GoodEn e) : Calls Try.prog 11 #[.pointer (some ⟨C, 0, none⟩), .agg (enCells e).toArray] w (OddEnPost C w) := by
  obtain ⟨l, k, t, p, g, r, c, s⟩ := e
  have HG := Lib.hid he
  obtain ⟨fsHUE, huHUE⟩ := under_en
  have HUE := Lib.hid huHUE
  clear huHUE
  obtain ⟨fsHUC, huHUC⟩ := under_ch
  have HUC := Lib.hid huHUC
  clear huHUC
  have h1 := ((Dr.start h).put 28 (enCells ⟨l, k, t, p, g, r, c, s⟩)).put 28 (enCells enNil)
  simp only [List.nil_append, List.cons_append, World.size_alloc] at h1
  have HS0 : Hid (Dr w C [⟨w.heap.size, 28, enCells ⟨l, k, t, p, g, r, c, s⟩⟩, ⟨w.heap.size + 1, 28, enCells enNil⟩] ((w.alloc (.cells (enCells ⟨l, k, t, p, g, r, c, s⟩).toArray 28)).alloc (.cells #[.int .i64 0, .int .i64 0, .int .i64 0, .int .i64 0, .int .i64 0, .int .i64 0, .int .i64 0, .int .i64 0, .bool false, .string ⟨#[]⟩, .bool false, .string ⟨#[]⟩, .string ⟨#[]⟩] 28))) := h1
  clear h h1 he
  go_enter Try.func11, Try.ntmps11
  go_upto_region 1 with (fail)
  have HS2 : Hid (Dr w C [⟨w.heap.size, 28, enCells ⟨l, k, t, p, g, r, c, s⟩⟩, ⟨(w.heap.size + 1), 28, enCells enNil⟩] ((w.alloc (.cells (enCells ⟨l, k, t, p, g, r, c, s⟩).toArray 28)).alloc (.cells #[.int .i64 0, .int .i64 0, .int .i64 0, .int .i64 0, .int .i64 0, .int .i64 0, .int .i64 0, .int .i64 0, .bool false, .string ⟨#[]⟩, .bool false, .string ⟨#[]⟩, .string ⟨#[]⟩] 28))) := HS0.out
  clear HS0
  generalize (w.alloc (.cells (enCells ⟨l, k, t, p, g, r, c, s⟩).toArray 28)).alloc (.cells #[.int .i64 0, .int .i64 0, .int .i64 0, .int .i64 0, .int .i64 0, .int .i64 0, .int .i64 0, .int .i64 0, .bool false, .string ⟨#[]⟩, .bool false, .string ⟨#[]⟩, .string ⟨#[]⟩] 28) = w3 at *
  generalize (w.heap.size + 1) = B1 at *
  go_wp2_with fail
  refine (next_any C 9 _ (HS2.out).codes (by omega)).mono ?_
  rintro e w4 ⟨n, rfl, n0, n1, hb, hc⟩
  have HS3 : Hid (Dr w C [⟨w.heap.size, 28, enCells ⟨l, k, t, p, g, r, c, s⟩⟩, ⟨B1, 28, enCells enNil⟩] w4) := (HS2.out).draws hb hc
  clear hb hc
  clear HS2
  have n2 : n ≤ 9 - 1 := by omega
  go_upto_region 2 with (fail)
  have hn9 : n = 0 ∨ n = 1 ∨ n = 2 ∨ n = 3 ∨ n = 4 ∨ n = 5 ∨ n = 6 ∨ n = 7 ∨ n = 8 := by omega
  clear n0 n1 n2
  rcases hn9 with rfl | rfl | rfl | rfl | rfl | rfl | rfl | rfl | rfl
  ·
    go_wp2_with fail
    refine (int_any C _ (HS3.out).codes).mono ?_
    rintro e w5 ⟨x, rfl, x0, x1, hb, hc⟩
    have HS4 : Hid (Dr w C [⟨w.heap.size, 28, enCells ⟨l, k, t, p, g, r, c, s⟩⟩, ⟨B1, 28, enCells enNil⟩] w5) := (HS3.out).draws hb hc
    clear hb hc
    clear HS3
    have HX : Hid ((Lit.int .i64 x).wf = true) := Lib.hid (int_wf x0 x1)
    clear x0 x1
    go_upto_region 20 with (first | ((with_reducible refine wpList_store_fld 3 (.tmp 11) (.tmp 10) (w.heap.size) 0 (.int .i64 x) ([.int .i64 x]) (enCells ⟨l, k, t, p, g, r, c, s⟩) (enCells ⟨x, k, t, p, g, r, c, s⟩) 28 ?_ ?_ ?_ ?_ ?_ ?_ ?_ ?_ ?_); (exact rfl); (exact rfl); (exact rfl); (exact (HS4.out).get 0 rfl); (exact (Nat.le_of_ble_eq_true rfl)); (exact info_int1); (exact (one_int _ _)); (exact rfl); skip))
    have HS5 : Hid (Dr w C [⟨w.heap.size, 28, enCells ⟨x, k, t, p, g, r, c, s⟩⟩, ⟨B1, 28, enCells enNil⟩] (w5.setRow (w.heap.size) (enCells ⟨x, k, t, p, g, r, c, s⟩).toArray)) := (HS4.out).row 0 rfl (enCells ⟨x, k, t, p, g, r, c, s⟩)
    clear HS4
    generalize (w5.setRow (w.heap.size) (enCells ⟨x, k, t, p, g, r, c, s⟩).toArray) = w6 at *
    go_wp2_with (first | ((with_reducible refine wpList_load_ob 28 (.tmp 3) (w.heap.size) (enCells ⟨x, k, t, p, g, r, c, s⟩) 28 HUE.out ?_ ?_ ?_ ?_ ?_); (exact rfl); (exact (HS5.out).get 0 rfl); (exact rfl); (exact info_en); simp only [Act.put, List.setIfInBounds_toArray, List.set_cons_zero, List.set_cons_succ]) | ((with_reducible refine wpList_store_ob 28 (.tmp 4) B1 (enCells ⟨x, k, t, p, g, r, c, s⟩) (enCells enNil) 28 ?_ ?_ ?_ ?_ ?_ ?_ ?_); (exact rfl); (exact rfl); (exact (HS5.out).get 1 rfl); (exact info_en); (exact rfl); (exact (oneCell_en _)); skip))
    have HS6 : Hid (Dr w C [⟨w.heap.size, 28, enCells ⟨x, k, t, p, g, r, c, s⟩⟩, ⟨B1, 28, enCells ⟨x, k, t, p, g, r, c, s⟩⟩] (w6.setRow B1 (enCells ⟨x, k, t, p, g, r, c, s⟩).toArray)) := (HS5.out).row 1 rfl (enCells ⟨x, k, t, p, g, r, c, s⟩)
    clear HS5
    generalize (w6.setRow B1 (enCells ⟨x, k, t, p, g, r, c, s⟩).toArray) = w7 at *
    refine bodyPost_ret (results_ob Try.results11 _ _ B1 (enCells ⟨x, k, t, p, g, r, c, s⟩) 28 _ rfl ((HS6.out).get 1 rfl) HUE.out rfl info_en) rfl ?_
    exact ⟨_, rfl, Lib.hid ⟨HX.out, HG.out.kind, HG.out.tx, HG.out.ptx, HG.out.ppg, HG.out.ref, HG.out.ch, HG.out.blob⟩, (HS6.out).bes, (HS6.out).codes⟩
  ·
    go_wp2_with fail
    refine (next_any C 11 _ (HS3.out).codes (by omega)).mono ?_
    rintro e w5 ⟨x, rfl, x0, x1, hb, hc⟩
    have HS4 : Hid (Dr w C [⟨w.heap.size, 28, enCells ⟨l, k, t, p, g, r, c, s⟩⟩, ⟨B1, 28, enCells enNil⟩] w5) := (HS3.out).draws hb hc
    clear hb hc
    clear HS3
    have x2 : x ≤ 11 - 1 := by omega
    go_upto_region 20 with (first | ((with_reducible refine wpList_store_fld 3 (.tmp 17) (.tmp 16) (w.heap.size) 1 (.int .i64 (x - 1)) ([.int .i64 (x - 1)]) (enCells ⟨l, k, t, p, g, r, c, s⟩) (enCells ⟨l, (x - 1), t, p, g, r, c, s⟩) 28 ?_ ?_ ?_ ?_ ?_ ?_ ?_ ?_ ?_); (exact rfl); (exact rfl); (exact rfl); (exact (HS4.out).get 0 rfl); (exact (Nat.le_of_ble_eq_true rfl)); (exact info_int1); (exact (one_int _ _)); (exact rfl); skip))
    have HS5 : Hid (Dr w C [⟨w.heap.size, 28, enCells ⟨l, (x - 1), t, p, g, r, c, s⟩⟩, ⟨B1, 28, enCells enNil⟩] (w5.setRow (w.heap.size) (enCells ⟨l, (x - 1), t, p, g, r, c, s⟩).toArray)) := (HS4.out).row 0 rfl (enCells ⟨l, (x - 1), t, p, g, r, c, s⟩)
    clear HS4
    generalize (w5.setRow (w.heap.size) (enCells ⟨l, (x - 1), t, p, g, r, c, s⟩).toArray) = w6 at *
    go_wp2_with (first | ((with_reducible refine wpList_load_ob 28 (.tmp 3) (w.heap.size) (enCells ⟨l, (x - 1), t, p, g, r, c, s⟩) 28 HUE.out ?_ ?_ ?_ ?_ ?_); (exact rfl); (exact (HS5.out).get 0 rfl); (exact rfl); (exact info_en); simp only [Act.put, List.setIfInBounds_toArray, List.set_cons_zero, List.set_cons_succ]) | ((with_reducible refine wpList_store_ob 28 (.tmp 4) B1 (enCells ⟨l, (x - 1), t, p, g, r, c, s⟩) (enCells enNil) 28 ?_ ?_ ?_ ?_ ?_ ?_ ?_); (exact rfl); (exact rfl); (exact (HS5.out).get 1 rfl); (exact info_en); (exact rfl); (exact (oneCell_en _)); skip))
    have HS6 : Hid (Dr w C [⟨w.heap.size, 28, enCells ⟨l, (x - 1), t, p, g, r, c, s⟩⟩, ⟨B1, 28, enCells ⟨l, (x - 1), t, p, g, r, c, s⟩⟩] (w6.setRow B1 (enCells ⟨l, (x - 1), t, p, g, r, c, s⟩).toArray)) := (HS5.out).row 1 rfl (enCells ⟨l, (x - 1), t, p, g, r, c, s⟩)
    clear HS5
    generalize (w6.setRow B1 (enCells ⟨l, (x - 1), t, p, g, r, c, s⟩).toArray) = w7 at *
    refine bodyPost_ret (results_ob Try.results11 _ _ B1 (enCells ⟨l, (x - 1), t, p, g, r, c, s⟩) 28 _ rfl ((HS6.out).get 1 rfl) HUE.out rfl info_en) rfl ?_
    exact ⟨_, rfl, Lib.hid ⟨HG.out.lsn, wf_of (by show _ ≤ x - 1; omega) (by show x - 1 ≤ _; omega), HG.out.tx, HG.out.ptx, HG.out.ppg, HG.out.ref, HG.out.ch, HG.out.blob⟩, (HS6.out).bes, (HS6.out).codes⟩
  ·
    go_wp2_with fail
    refine (int_any C _ (HS3.out).codes).mono ?_
    rintro e w5 ⟨x, rfl, x0, x1, hb, hc⟩
    have HS4 : Hid (Dr w C [⟨w.heap.size, 28, enCells ⟨l, k, t, p, g, r, c, s⟩⟩, ⟨B1, 28, enCells enNil⟩] w5) := (HS3.out).draws hb hc
    clear hb hc
    clear HS3
    have HX : Hid ((Lit.int .i64 x).wf = true) := Lib.hid (int_wf x0 x1)
    clear x0 x1
    go_upto_region 20 with (first | ((with_reducible refine wpList_store_fld 3 (.tmp 22) (.tmp 21) (w.heap.size) 2 (.int .i64 x) ([.int .i64 x]) (enCells ⟨l, k, t, p, g, r, c, s⟩) (enCells ⟨l, k, x, p, g, r, c, s⟩) 28 ?_ ?_ ?_ ?_ ?_ ?_ ?_ ?_ ?_); (exact rfl); (exact rfl); (exact rfl); (exact (HS4.out).get 0 rfl); (exact (Nat.le_of_ble_eq_true rfl)); (exact info_int1); (exact (one_int _ _)); (exact rfl); skip))
    have HS5 : Hid (Dr w C [⟨w.heap.size, 28, enCells ⟨l, k, x, p, g, r, c, s⟩⟩, ⟨B1, 28, enCells enNil⟩] (w5.setRow (w.heap.size) (enCells ⟨l, k, x, p, g, r, c, s⟩).toArray)) := (HS4.out).row 0 rfl (enCells ⟨l, k, x, p, g, r, c, s⟩)
    clear HS4
    generalize (w5.setRow (w.heap.size) (enCells ⟨l, k, x, p, g, r, c, s⟩).toArray) = w6 at *
    go_wp2_with (first | ((with_reducible refine wpList_load_ob 28 (.tmp 3) (w.heap.size) (enCells ⟨l, k, x, p, g, r, c, s⟩) 28 HUE.out ?_ ?_ ?_ ?_ ?_); (exact rfl); (exact (HS5.out).get 0 rfl); (exact rfl); (exact info_en); simp only [Act.put, List.setIfInBounds_toArray, List.set_cons_zero, List.set_cons_succ]) | ((with_reducible refine wpList_store_ob 28 (.tmp 4) B1 (enCells ⟨l, k, x, p, g, r, c, s⟩) (enCells enNil) 28 ?_ ?_ ?_ ?_ ?_ ?_ ?_); (exact rfl); (exact rfl); (exact (HS5.out).get 1 rfl); (exact info_en); (exact rfl); (exact (oneCell_en _)); skip))
    have HS6 : Hid (Dr w C [⟨w.heap.size, 28, enCells ⟨l, k, x, p, g, r, c, s⟩⟩, ⟨B1, 28, enCells ⟨l, k, x, p, g, r, c, s⟩⟩] (w6.setRow B1 (enCells ⟨l, k, x, p, g, r, c, s⟩).toArray)) := (HS5.out).row 1 rfl (enCells ⟨l, k, x, p, g, r, c, s⟩)
    clear HS5
    generalize (w6.setRow B1 (enCells ⟨l, k, x, p, g, r, c, s⟩).toArray) = w7 at *
    refine bodyPost_ret (results_ob Try.results11 _ _ B1 (enCells ⟨l, k, x, p, g, r, c, s⟩) 28 _ rfl ((HS6.out).get 1 rfl) HUE.out rfl info_en) rfl ?_
    exact ⟨_, rfl, Lib.hid ⟨HG.out.lsn, HG.out.kind, HX.out, HG.out.ptx, HG.out.ppg, HG.out.ref, HG.out.ch, HG.out.blob⟩, (HS6.out).bes, (HS6.out).codes⟩
  ·
    go_wp2_with fail
    refine (int_any C _ (HS3.out).codes).mono ?_
    rintro e w5 ⟨x, rfl, x0, x1, hb, hc⟩
    have HS4 : Hid (Dr w C [⟨w.heap.size, 28, enCells ⟨l, k, t, p, g, r, c, s⟩⟩, ⟨B1, 28, enCells enNil⟩] w5) := (HS3.out).draws hb hc
    clear hb hc
    clear HS3
    have HX : Hid ((Lit.int .i64 x).wf = true) := Lib.hid (int_wf x0 x1)
    clear x0 x1
    go_upto_region 20 with (first | ((with_reducible refine wpList_store_fld 3 (.tmp 27) (.tmp 26) (w.heap.size) 3 (.int .i64 x) ([.int .i64 x]) (enCells ⟨l, k, t, p, g, r, c, s⟩) (enCells ⟨l, k, t, x, g, r, c, s⟩) 28 ?_ ?_ ?_ ?_ ?_ ?_ ?_ ?_ ?_); (exact rfl); (exact rfl); (exact rfl); (exact (HS4.out).get 0 rfl); (exact (Nat.le_of_ble_eq_true rfl)); (exact info_int1); (exact (one_int _ _)); (exact rfl); skip))
    have HS5 : Hid (Dr w C [⟨w.heap.size, 28, enCells ⟨l, k, t, x, g, r, c, s⟩⟩, ⟨B1, 28, enCells enNil⟩] (w5.setRow (w.heap.size) (enCells ⟨l, k, t, x, g, r, c, s⟩).toArray)) := (HS4.out).row 0 rfl (enCells ⟨l, k, t, x, g, r, c, s⟩)
    clear HS4
    generalize (w5.setRow (w.heap.size) (enCells ⟨l, k, t, x, g, r, c, s⟩).toArray) = w6 at *
    go_wp2_with (first | ((with_reducible refine wpList_load_ob 28 (.tmp 3) (w.heap.size) (enCells ⟨l, k, t, x, g, r, c, s⟩) 28 HUE.out ?_ ?_ ?_ ?_ ?_); (exact rfl); (exact (HS5.out).get 0 rfl); (exact rfl); (exact info_en); simp only [Act.put, List.setIfInBounds_toArray, List.set_cons_zero, List.set_cons_succ]) | ((with_reducible refine wpList_store_ob 28 (.tmp 4) B1 (enCells ⟨l, k, t, x, g, r, c, s⟩) (enCells enNil) 28 ?_ ?_ ?_ ?_ ?_ ?_ ?_); (exact rfl); (exact rfl); (exact (HS5.out).get 1 rfl); (exact info_en); (exact rfl); (exact (oneCell_en _)); skip))
    have HS6 : Hid (Dr w C [⟨w.heap.size, 28, enCells ⟨l, k, t, x, g, r, c, s⟩⟩, ⟨B1, 28, enCells ⟨l, k, t, x, g, r, c, s⟩⟩] (w6.setRow B1 (enCells ⟨l, k, t, x, g, r, c, s⟩).toArray)) := (HS5.out).row 1 rfl (enCells ⟨l, k, t, x, g, r, c, s⟩)
    clear HS5
    generalize (w6.setRow B1 (enCells ⟨l, k, t, x, g, r, c, s⟩).toArray) = w7 at *
    refine bodyPost_ret (results_ob Try.results11 _ _ B1 (enCells ⟨l, k, t, x, g, r, c, s⟩) 28 _ rfl ((HS6.out).get 1 rfl) HUE.out rfl info_en) rfl ?_
    exact ⟨_, rfl, Lib.hid ⟨HG.out.lsn, HG.out.kind, HG.out.tx, HX.out, HG.out.ppg, HG.out.ref, HG.out.ch, HG.out.blob⟩, (HS6.out).bes, (HS6.out).codes⟩
  ·
    go_wp2_with fail
    refine (int_any C _ (HS3.out).codes).mono ?_
    rintro e w5 ⟨x, rfl, x0, x1, hb, hc⟩
    have HS4 : Hid (Dr w C [⟨w.heap.size, 28, enCells ⟨l, k, t, p, g, r, c, s⟩⟩, ⟨B1, 28, enCells enNil⟩] w5) := (HS3.out).draws hb hc
    clear hb hc
    clear HS3
    have HX : Hid ((Lit.int .i64 x).wf = true) := Lib.hid (int_wf x0 x1)
    clear x0 x1
    go_upto_region 20 with (first | ((with_reducible refine wpList_store_fld 3 (.tmp 32) (.tmp 31) (w.heap.size) 4 (.int .i64 x) ([.int .i64 x]) (enCells ⟨l, k, t, p, g, r, c, s⟩) (enCells ⟨l, k, t, p, x, r, c, s⟩) 28 ?_ ?_ ?_ ?_ ?_ ?_ ?_ ?_ ?_); (exact rfl); (exact rfl); (exact rfl); (exact (HS4.out).get 0 rfl); (exact (Nat.le_of_ble_eq_true rfl)); (exact info_int1); (exact (one_int _ _)); (exact rfl); skip))
    have HS5 : Hid (Dr w C [⟨w.heap.size, 28, enCells ⟨l, k, t, p, x, r, c, s⟩⟩, ⟨B1, 28, enCells enNil⟩] (w5.setRow (w.heap.size) (enCells ⟨l, k, t, p, x, r, c, s⟩).toArray)) := (HS4.out).row 0 rfl (enCells ⟨l, k, t, p, x, r, c, s⟩)
    clear HS4
    generalize (w5.setRow (w.heap.size) (enCells ⟨l, k, t, p, x, r, c, s⟩).toArray) = w6 at *
    go_wp2_with (first | ((with_reducible refine wpList_load_ob 28 (.tmp 3) (w.heap.size) (enCells ⟨l, k, t, p, x, r, c, s⟩) 28 HUE.out ?_ ?_ ?_ ?_ ?_); (exact rfl); (exact (HS5.out).get 0 rfl); (exact rfl); (exact info_en); simp only [Act.put, List.setIfInBounds_toArray, List.set_cons_zero, List.set_cons_succ]) | ((with_reducible refine wpList_store_ob 28 (.tmp 4) B1 (enCells ⟨l, k, t, p, x, r, c, s⟩) (enCells enNil) 28 ?_ ?_ ?_ ?_ ?_ ?_ ?_); (exact rfl); (exact rfl); (exact (HS5.out).get 1 rfl); (exact info_en); (exact rfl); (exact (oneCell_en _)); skip))
    have HS6 : Hid (Dr w C [⟨w.heap.size, 28, enCells ⟨l, k, t, p, x, r, c, s⟩⟩, ⟨B1, 28, enCells ⟨l, k, t, p, x, r, c, s⟩⟩] (w6.setRow B1 (enCells ⟨l, k, t, p, x, r, c, s⟩).toArray)) := (HS5.out).row 1 rfl (enCells ⟨l, k, t, p, x, r, c, s⟩)
    clear HS5
    generalize (w6.setRow B1 (enCells ⟨l, k, t, p, x, r, c, s⟩).toArray) = w7 at *
    refine bodyPost_ret (results_ob Try.results11 _ _ B1 (enCells ⟨l, k, t, p, x, r, c, s⟩) 28 _ rfl ((HS6.out).get 1 rfl) HUE.out rfl info_en) rfl ?_
    exact ⟨_, rfl, Lib.hid ⟨HG.out.lsn, HG.out.kind, HG.out.tx, HG.out.ptx, HX.out, HG.out.ref, HG.out.ch, HG.out.blob⟩, (HS6.out).bes, (HS6.out).codes⟩
  ·
    go_wp2_with fail
    refine (int_any C _ (HS3.out).codes).mono ?_
    rintro e w5 ⟨x, rfl, x0, x1, hb, hc⟩
    have HS4 : Hid (Dr w C [⟨w.heap.size, 28, enCells ⟨l, k, t, p, g, r, c, s⟩⟩, ⟨B1, 28, enCells enNil⟩] w5) := (HS3.out).draws hb hc
    clear hb hc
    clear HS3
    have HX : Hid ((Lit.int .i64 x).wf = true) := Lib.hid (int_wf x0 x1)
    clear x0 x1
    go_upto_region 20 with (first | ((with_reducible refine wpList_store_fld 3 (.tmp 37) (.tmp 36) (w.heap.size) 5 (.int .i64 x) ([.int .i64 x]) (enCells ⟨l, k, t, p, g, r, c, s⟩) (enCells ⟨l, k, t, p, g, x, c, s⟩) 28 ?_ ?_ ?_ ?_ ?_ ?_ ?_ ?_ ?_); (exact rfl); (exact rfl); (exact rfl); (exact (HS4.out).get 0 rfl); (exact (Nat.le_of_ble_eq_true rfl)); (exact info_int1); (exact (one_int _ _)); (exact rfl); skip))
    have HS5 : Hid (Dr w C [⟨w.heap.size, 28, enCells ⟨l, k, t, p, g, x, c, s⟩⟩, ⟨B1, 28, enCells enNil⟩] (w5.setRow (w.heap.size) (enCells ⟨l, k, t, p, g, x, c, s⟩).toArray)) := (HS4.out).row 0 rfl (enCells ⟨l, k, t, p, g, x, c, s⟩)
    clear HS4
    generalize (w5.setRow (w.heap.size) (enCells ⟨l, k, t, p, g, x, c, s⟩).toArray) = w6 at *
    go_wp2_with (first | ((with_reducible refine wpList_load_ob 28 (.tmp 3) (w.heap.size) (enCells ⟨l, k, t, p, g, x, c, s⟩) 28 HUE.out ?_ ?_ ?_ ?_ ?_); (exact rfl); (exact (HS5.out).get 0 rfl); (exact rfl); (exact info_en); simp only [Act.put, List.setIfInBounds_toArray, List.set_cons_zero, List.set_cons_succ]) | ((with_reducible refine wpList_store_ob 28 (.tmp 4) B1 (enCells ⟨l, k, t, p, g, x, c, s⟩) (enCells enNil) 28 ?_ ?_ ?_ ?_ ?_ ?_ ?_); (exact rfl); (exact rfl); (exact (HS5.out).get 1 rfl); (exact info_en); (exact rfl); (exact (oneCell_en _)); skip))
    have HS6 : Hid (Dr w C [⟨w.heap.size, 28, enCells ⟨l, k, t, p, g, x, c, s⟩⟩, ⟨B1, 28, enCells ⟨l, k, t, p, g, x, c, s⟩⟩] (w6.setRow B1 (enCells ⟨l, k, t, p, g, x, c, s⟩).toArray)) := (HS5.out).row 1 rfl (enCells ⟨l, k, t, p, g, x, c, s⟩)
    clear HS5
    generalize (w6.setRow B1 (enCells ⟨l, k, t, p, g, x, c, s⟩).toArray) = w7 at *
    refine bodyPost_ret (results_ob Try.results11 _ _ B1 (enCells ⟨l, k, t, p, g, x, c, s⟩) 28 _ rfl ((HS6.out).get 1 rfl) HUE.out rfl info_en) rfl ?_
    exact ⟨_, rfl, Lib.hid ⟨HG.out.lsn, HG.out.kind, HG.out.tx, HG.out.ptx, HG.out.ppg, HX.out, HG.out.ch, HG.out.blob⟩, (HS6.out).bes, (HS6.out).codes⟩
  ·
    go_wp2_with (first | ((with_reducible refine wpList_load_at 26 (.tmp 41) (w.heap.size) (6) (chCells c) HUC.out ?_ ?_ ?_ ?_ ?_); (exact rfl); (exact (HS3.out).mid 0 rfl (6) _ ((mid_6 ⟨l, k, t, p, g, r, c, s⟩))); (exact rfl); (exact info_ch); simp only [Act.put, List.setIfInBounds_toArray, List.set_cons_zero, List.set_cons_succ]))
    refine (oddChange_any C c _ (HS3.out).codes HG.out.ch).mono ?_
    rintro e w5 ⟨x, rfl, hx, hb, hc⟩
    have HS4 : Hid (Dr w C [⟨w.heap.size, 28, enCells ⟨l, k, t, p, g, r, c, s⟩⟩, ⟨B1, 28, enCells enNil⟩] w5) := (HS3.out).draws hb hc
    clear hb hc
    clear HS3
    have HX := Lib.hid hx
    clear hx
    go_upto_region 20 with (first | ((with_reducible refine wpList_store_fld 26 (.tmp 44) (.tmp 43) (w.heap.size) 6 (.agg (chCells x).toArray) (chCells x) (enCells ⟨l, k, t, p, g, r, c, s⟩) (enCells ⟨l, k, t, p, g, r, x, s⟩) 28 ?_ ?_ ?_ ?_ ?_ ?_ ?_ ?_ ?_); (exact rfl); (exact rfl); (exact rfl); (exact (HS4.out).get 0 rfl); (exact (Nat.le_of_ble_eq_true rfl)); (exact info_ch); (exact (oneCell_ch _)); (exact rfl); skip))
    have HS5 : Hid (Dr w C [⟨w.heap.size, 28, enCells ⟨l, k, t, p, g, r, x, s⟩⟩, ⟨B1, 28, enCells enNil⟩] (w5.setRow (w.heap.size) (enCells ⟨l, k, t, p, g, r, x, s⟩).toArray)) := (HS4.out).row 0 rfl (enCells ⟨l, k, t, p, g, r, x, s⟩)
    clear HS4
    generalize (w5.setRow (w.heap.size) (enCells ⟨l, k, t, p, g, r, x, s⟩).toArray) = w6 at *
    go_wp2_with (first | ((with_reducible refine wpList_load_ob 28 (.tmp 3) (w.heap.size) (enCells ⟨l, k, t, p, g, r, x, s⟩) 28 HUE.out ?_ ?_ ?_ ?_ ?_); (exact rfl); (exact (HS5.out).get 0 rfl); (exact rfl); (exact info_en); simp only [Act.put, List.setIfInBounds_toArray, List.set_cons_zero, List.set_cons_succ]) | ((with_reducible refine wpList_store_ob 28 (.tmp 4) B1 (enCells ⟨l, k, t, p, g, r, x, s⟩) (enCells enNil) 28 ?_ ?_ ?_ ?_ ?_ ?_ ?_); (exact rfl); (exact rfl); (exact (HS5.out).get 1 rfl); (exact info_en); (exact rfl); (exact (oneCell_en _)); skip))
    have HS6 : Hid (Dr w C [⟨w.heap.size, 28, enCells ⟨l, k, t, p, g, r, x, s⟩⟩, ⟨B1, 28, enCells ⟨l, k, t, p, g, r, x, s⟩⟩] (w6.setRow B1 (enCells ⟨l, k, t, p, g, r, x, s⟩).toArray)) := (HS5.out).row 1 rfl (enCells ⟨l, k, t, p, g, r, x, s⟩)
    clear HS5
    generalize (w6.setRow B1 (enCells ⟨l, k, t, p, g, r, x, s⟩).toArray) = w7 at *
    refine bodyPost_ret (results_ob Try.results11 _ _ B1 (enCells ⟨l, k, t, p, g, r, x, s⟩) 28 _ rfl ((HS6.out).get 1 rfl) HUE.out rfl info_en) rfl ?_
    exact ⟨_, rfl, Lib.hid ⟨HG.out.lsn, HG.out.kind, HG.out.tx, HG.out.ptx, HG.out.ppg, HG.out.ref, HX.out, HG.out.blob⟩, (HS6.out).bes, (HS6.out).codes⟩
  ·
    go_wp2_with fail
    refine (data_any C _ (HS3.out).codes).mono ?_
    rintro e w5 ⟨d, rfl, hd, hb, hc⟩
    have HS4 : Hid (Dr w C [⟨w.heap.size, 28, enCells ⟨l, k, t, p, g, r, c, s⟩⟩, ⟨B1, 28, enCells enNil⟩] w5) := (HS3.out).draws hb hc
    clear hb hc
    clear HS3
    have HX : Hid (d.size ≤ maxLen) := Lib.hid (small_le hd)
    clear hd
    go_upto_region 20 with (first | ((with_reducible refine wpList_store_fld 9 (.tmp 49) (.tmp 48) (w.heap.size) 12 (.string d) ([.string d]) (enCells ⟨l, k, t, p, g, r, c, s⟩) (enCells ⟨l, k, t, p, g, r, c, d⟩) 28 ?_ ?_ ?_ ?_ ?_ ?_ ?_ ?_ ?_); (exact rfl); (exact rfl); (exact rfl); (exact (HS4.out).get 0 rfl); (exact (Nat.le_of_ble_eq_true rfl)); (exact info_str1); (exact (one_str _)); (exact rfl); skip))
    have HS5 : Hid (Dr w C [⟨w.heap.size, 28, enCells ⟨l, k, t, p, g, r, c, d⟩⟩, ⟨B1, 28, enCells enNil⟩] (w5.setRow (w.heap.size) (enCells ⟨l, k, t, p, g, r, c, d⟩).toArray)) := (HS4.out).row 0 rfl (enCells ⟨l, k, t, p, g, r, c, d⟩)
    clear HS4
    generalize (w5.setRow (w.heap.size) (enCells ⟨l, k, t, p, g, r, c, d⟩).toArray) = w6 at *
    go_wp2_with (first | ((with_reducible refine wpList_load_ob 28 (.tmp 3) (w.heap.size) (enCells ⟨l, k, t, p, g, r, c, d⟩) 28 HUE.out ?_ ?_ ?_ ?_ ?_); (exact rfl); (exact (HS5.out).get 0 rfl); (exact rfl); (exact info_en); simp only [Act.put, List.setIfInBounds_toArray, List.set_cons_zero, List.set_cons_succ]) | ((with_reducible refine wpList_store_ob 28 (.tmp 4) B1 (enCells ⟨l, k, t, p, g, r, c, d⟩) (enCells enNil) 28 ?_ ?_ ?_ ?_ ?_ ?_ ?_); (exact rfl); (exact rfl); (exact (HS5.out).get 1 rfl); (exact info_en); (exact rfl); (exact (oneCell_en _)); skip))
    have HS6 : Hid (Dr w C [⟨w.heap.size, 28, enCells ⟨l, k, t, p, g, r, c, d⟩⟩, ⟨B1, 28, enCells ⟨l, k, t, p, g, r, c, d⟩⟩] (w6.setRow B1 (enCells ⟨l, k, t, p, g, r, c, d⟩).toArray)) := (HS5.out).row 1 rfl (enCells ⟨l, k, t, p, g, r, c, d⟩)
    clear HS5
    generalize (w6.setRow B1 (enCells ⟨l, k, t, p, g, r, c, d⟩).toArray) = w7 at *
    refine bodyPost_ret (results_ob Try.results11 _ _ B1 (enCells ⟨l, k, t, p, g, r, c, d⟩) 28 _ rfl ((HS6.out).get 1 rfl) HUE.out rfl info_en) rfl ?_
    exact ⟨_, rfl, Lib.hid ⟨HG.out.lsn, HG.out.kind, HG.out.tx, HG.out.ptx, HG.out.ppg, HG.out.ref, HG.out.ch, HX.out⟩, (HS6.out).bes, (HS6.out).codes⟩
  ·
    go_wp2_with fail
    refine (next_any C 2 _ (HS3.out).codes (by omega)).mono ?_
    rintro e w5 ⟨x, rfl, x0, x1, hb, hc⟩
    have HS4 : Hid (Dr w C [⟨w.heap.size, 28, enCells ⟨l, k, t, p, g, r, c, s⟩⟩, ⟨B1, 28, enCells enNil⟩] w5) := (HS3.out).draws hb hc
    clear hb hc
    clear HS3
    have x2 : x ≤ 2 - 1 := by omega
    obtain ⟨m, hm⟩ : ∃ m : Nat, 8192 + x = (m : Int) := ⟨(8192 + x).toNat, by omega⟩
    have hm2 : m ≤ 8193 := by omega
    obtain rfl : x = (m : Int) - 8192 := by omega
    have hms : (8192 : Int) + ((m : Int) - 8192) = (m : Int) := by omega
    have hmk : Sem.run Try.prog (Instr.makeSlice 22 (.int .i64 (m : Int)) (.int .i64 (m : Int))) w5 = .ok (.slice (some ⟨w5.heap.size, 0, none⟩) m m) (w5.alloc (.cells (madeCells #[.int .u8 0] m) 5)) := run_make_row' 22 5 (.int .u8 0) 1 Try.underlying22 info_byte rfl .i64 .i64 m (by omega) (by omega) w5
    have hcv := zeros_conv w5 m
    have HX : Hid ((zeroS m).size ≤ maxLen) := Lib.hid (by rw [zeroS_size]; unfold maxLen; omega)
    generalize zeroS m = d at *
    have HSa : Hid (Dr w C [⟨w.heap.size, 28, enCells ⟨l, k, t, p, g, r, c, s⟩⟩, ⟨B1, 28, enCells enNil⟩] (w5.alloc (.cells (madeCells #[.int .u8 0] m) 5))) := (HS4.out).below ((Below.refl _ _).alloc (Nat.le_refl _) _)
    clear HS4
    go_upto_region 20 with (first | ((with_reducible refine wpList_store_fld 9 (.tmp 57) (.tmp 56) (w.heap.size) 12 (.string d) ([.string d]) (enCells ⟨l, k, t, p, g, r, c, s⟩) (enCells ⟨l, k, t, p, g, r, c, d⟩) 28 ?_ ?_ ?_ ?_ ?_ ?_ ?_ ?_ ?_); (exact rfl); (exact rfl); (exact rfl); (exact (HSa.out).get 0 rfl); (exact (Nat.le_of_ble_eq_true rfl)); (exact info_str1); (exact (one_str _)); (exact rfl); skip))
    have HS5 : Hid (Dr w C [⟨w.heap.size, 28, enCells ⟨l, k, t, p, g, r, c, d⟩⟩, ⟨B1, 28, enCells enNil⟩] ((w5.alloc (.cells (madeCells #[.int .u8 0] m) 5)).setRow (w.heap.size) (enCells ⟨l, k, t, p, g, r, c, d⟩).toArray)) := (HSa.out).row 0 rfl (enCells ⟨l, k, t, p, g, r, c, d⟩)
    clear HSa
    generalize ((w5.alloc (.cells (madeCells #[.int .u8 0] m) 5)).setRow (w.heap.size) (enCells ⟨l, k, t, p, g, r, c, d⟩).toArray) = w6 at *
    go_wp2_with (first | ((with_reducible refine wpList_load_ob 28 (.tmp 3) (w.heap.size) (enCells ⟨l, k, t, p, g, r, c, d⟩) 28 HUE.out ?_ ?_ ?_ ?_ ?_); (exact rfl); (exact (HS5.out).get 0 rfl); (exact rfl); (exact info_en); simp only [Act.put, List.setIfInBounds_toArray, List.set_cons_zero, List.set_cons_succ]) | ((with_reducible refine wpList_store_ob 28 (.tmp 4) B1 (enCells ⟨l, k, t, p, g, r, c, d⟩) (enCells enNil) 28 ?_ ?_ ?_ ?_ ?_ ?_ ?_); (exact rfl); (exact rfl); (exact (HS5.out).get 1 rfl); (exact info_en); (exact rfl); (exact (oneCell_en _)); skip))
    have HS6 : Hid (Dr w C [⟨w.heap.size, 28, enCells ⟨l, k, t, p, g, r, c, d⟩⟩, ⟨B1, 28, enCells ⟨l, k, t, p, g, r, c, d⟩⟩] (w6.setRow B1 (enCells ⟨l, k, t, p, g, r, c, d⟩).toArray)) := (HS5.out).row 1 rfl (enCells ⟨l, k, t, p, g, r, c, d⟩)
    clear HS5
    generalize (w6.setRow B1 (enCells ⟨l, k, t, p, g, r, c, d⟩).toArray) = w7 at *
    refine bodyPost_ret (results_ob Try.results11 _ _ B1 (enCells ⟨l, k, t, p, g, r, c, d⟩) 28 _ rfl ((HS6.out).get 1 rfl) HUE.out rfl info_en) rfl ?_
    exact ⟨_, rfl, Lib.hid ⟨HG.out.lsn, HG.out.kind, HG.out.tx, HG.out.ptx, HG.out.ppg, HG.out.ref, HG.out.ch, HX.out⟩, (HS6.out).bes, (HS6.out).codes⟩
end Go.Proofs.Ytgljhfofikjbdaa
/- the choices of a law's walk, as a thing -/
namespace Go.Proofs.Ytgljhfofikjbdaa
open Go.RowKit
set_option maxRecDepth 20000

theorem row_lo {w : World} {x : Option Addr} {len cap : Nat} {zs : List Int} (hr : IsRow .u8 w x len cap zs) (h0 : 0 < len) : ∀ b off, x = some ⟨b, off, none⟩ → b < w.heap.size := by
  intro b off hx
  rcases hr with ⟨_, h, _, _⟩ | ⟨y, hy, _, _, hz, hc, _⟩
  · omega
  · have := World.block_lt_of_cell? w _ (hc 0 (by omega))
    rw [hx] at hy
    cases hy
    simpa [Addr.add] using this
theorem new_hp (m : Nat) (hm : m ≤ 1000) {w0 w : World} {L : List Th} {x : Option Addr} {len cap : Nat} {zs : List Int} (h : Hp w0 L w) (hr : IsRow .u8 w0 x len cap zs) :
    Calls Try.prog 9 #[.slice x len cap, .int .i64 m] w fun e w' => e = .returned (.pointer (some ⟨w.heap.size, 0, none⟩)) ∧ Hp w0 (L ++ [.cd w.heap.size]) w' :=
  (new_at m hm x len cap zs w (row_below hr h.old)).mono fun _ _ ⟨h1, h2, h3, l, c, h4, h5⟩ => ⟨h1, h.begin h2 h3 ⟨x, l, c, h4, fun hl => row_lo hr (h5 hl)⟩⟩
end Go.Proofs.Ytgljhfofikjbdaa
/- the choices of the drawing package: Spoilt -/
namespace Go.Proofs.Ytgljhfofikjbdaa
open Go.RowKit

/-- what Spoilt leaves: some text, at most one byte longer -/
def SpoiltPost (C : Nat) (s : ByteArray) (w : World) (e : Ending) (w' : World) : Prop :=
  ∃ r : ByteArray, e = .returned (.string r) ∧ r.size ≤ s.size + 1 ∧ Besides C w w' ∧ CodesOk w' C
set_option maxHeartbeats 1000000 in
theorem spoilt_any (C : Nat) (s : ByteArray) (w : World) (h : CodesOk w C) (hs : s.size ≤ 4611686018427387904) :
    Calls Try.prog 18 #[.pointer (some ⟨C, 0, none⟩), .string s] w (SpoiltPost C s w) := by
  have HK := Lib.hid h
  clear h
  by_cases h0 : s.size = 0
  · have hb0 : ((s.size : Int) == 0) = true := by rw [h0]; rfl
    have H0 := Lib.hid h0
    clear h0
    go_enter Try.func18, Try.ntmps18
    go_wp2_with fail
    refine (next_any C 256 _ HK.out (by omega)).mono ?_
    rintro e w2 ⟨x, rfl, x0, x1, hb, hc⟩
    have x2 : x ≤ 255 := by omega
    have hcv := conv_at (w2.alloc (.cells #[.int .u8 x] 5)) w2.heap.size x x0 x2 (by rw [World.cell?_alloc_new]; rfl)
    have HB := Lib.hid hb
    have HC := Lib.hid hc
    clear x1 hb hc
    go_wp2
    go_ret
    exact ⟨_, rfl, by rw [size_one]; omega, HB.out.alloc _, HC.out.below ((Below.refl _ _).alloc (Nat.le_refl _) _) HC.out.lt⟩
  have hb0 : ((s.size : Int) == 0) = false := by rw [beq_eq_false_iff_ne]; omega
  have hpos : 1 ≤ s.size := by omega
  clear h0
  go_enter Try.func18, Try.ntmps18
  go_wp2_with fail
  refine (next_any C s.size _ HK.out (by omega)).mono ?_
  rintro e w2 ⟨k, rfl, k0, k1, hb2, hc2⟩
  obtain ⟨k, rfl⟩ := Int.eq_ofNat_of_zero_le k0
  have hk : k < s.size := by omega
  clear k1
  have HB2 := Lib.hid hb2
  have HC2 := Lib.hid hc2
  clear hb2 hc2
  go_wp2_with fail
  refine (next_any C 4 _ HC2.out (by omega)).mono ?_
  rintro e w3 ⟨m, rfl, m0, m1, hb3, hc3⟩
  have HB3 := Lib.hid (HB2.out.trans hb3)
  have HC3 := Lib.hid hc3
  clear m1 hb3 hc3
  have hka : (0 : Int) ≤ (k : Int) := by omega
  have hkb : (k : Int) ≤ (s.size : Int) := by omega
  have hkc : (k : Int) < (s.size : Int) := by omega
  have hkd : (0 : Int) ≤ (k : Int) + 1 := by omega
  have hke : (k : Int) + 1 ≤ (s.size : Int) := by omega
  have hks : ((k : Int) + 1).toNat = k + 1 := by omega
  have hkw : IntKind.i64.wrap ((k : Int) + 1) = (k : Int) + 1 := IntWalk.i64_in _ (by omega)
  have z1 : (s.extract 0 k).size ≤ k := by rw [ByteArray.size_extract]; omega
  have z2 : (s.extract (k + 1) s.size).size ≤ s.size - (k + 1) := by rw [ByteArray.size_extract]; omega
  by_cases hm0 : m = 0
  · have hm0' : (m == 0) = true := by rw [hm0]; rfl
    have ha : ∀ W : World, Sem.run Try.prog (Op.stringOp .add (s.extract 0 k) (s.extract (k + 1) s.size)) W = .ok (.string (s.extract 0 k ++ s.extract (k + 1) s.size)) W := fun W => run_string_add_sum W _ _ (by omega)
    clear hm0
    go_wp2_with fail
    go_quiet (fail)
    go_wp2
    go_ret
    exact ⟨_, rfl, by rw [ByteArray.size_append]; omega, HB3.out.drewN _, HC3.out.drewN _⟩
  have hm0' : (m == 0) = false := by rw [beq_eq_false_iff_ne]; exact hm0
  clear hm0
  by_cases hm1 : m = 1
  · have hm1' : (m == 1) = true := by rw [hm1]; rfl
    clear hm1
    go_wp2_with fail
    refine (next_any C 256 _ HC3.out (by omega)).mono ?_
    rintro e w4 ⟨x, rfl, x0, x1, hb, hc⟩
    have x2 : x ≤ 255 := by omega
    have hcv := conv_at (w4.alloc (.cells #[.int .u8 x] 5)) w4.heap.size x x0 x2 (by rw [World.cell?_alloc_new]; rfl)
    have ha : ∀ W : World, Sem.run Try.prog (Op.stringOp .add s ⟨#[UInt8.ofNat x.toNat]⟩) W = .ok (.string (s ++ ⟨#[UInt8.ofNat x.toNat]⟩)) W := fun W => run_string_add_sum W _ _ (by rw [size_one]; omega)
    have HB := Lib.hid (HB3.out.trans hb)
    have HC := Lib.hid hc
    clear x1 hb hc
    go_wp2
    go_ret
    exact ⟨_, rfl, by rw [ByteArray.size_append, size_one]; omega, HB.out.alloc _, HC.out.below ((Below.refl _ _).alloc (Nat.le_refl _) _) HC.out.lt⟩
  have hm1' : (m == 1) = false := by rw [beq_eq_false_iff_ne]; exact hm1
  clear hm1
  have ha1 : ∀ (u : UInt8) (W : World), Sem.run Try.prog (Op.stringOp .add (s.extract 0 k) ⟨#[u]⟩) W = .ok (.string (s.extract 0 k ++ ⟨#[u]⟩)) W := fun u W => run_string_add_sum W _ _ (by rw [size_one]; omega)
  have ha2 : ∀ (u : UInt8) (W : World), Sem.run Try.prog (Op.stringOp .add (s.extract 0 k ++ ⟨#[u]⟩) (s.extract (k + 1) s.size)) W = .ok (.string (s.extract 0 k ++ ⟨#[u]⟩ ++ s.extract (k + 1) s.size)) W := fun u W => run_string_add_sum W _ _ (by rw [ByteArray.size_append, size_one]; omega)
  go_wp2_with fail
  go_region_with (go_at_call 19; go_must (refine (next_any C 255 _ HC3.out.drew (by omega)).mono ?_); rintro e w4 ⟨x, rfl, x0, x1, hb, hc⟩; have x2 : x ≤ 254 := (by omega); have HB := Lib.hid (HB3.out.drew.trans hb); have HC := Lib.hid hc; clear x1 hb hc; have hw1 : IntKind.i64.wrap (1 + x) = 1 + x := IntWalk.i64_in _ (by omega); obtain ⟨y, u, hy, hcv⟩ := conv_ex w4 (s[k].toNat : Int) (IntKind.u8.wrap (1 + x)))
  all_goals go_wp2
  all_goals go_ret
  all_goals exact ⟨_, rfl, by rw [ByteArray.size_append, ByteArray.size_append, size_one]; omega, HB.out.alloc _, HC.out.below ((Below.refl _ _).alloc (Nat.le_refl _) _) HC.out.lt⟩
end Go.Proofs.Ytgljhfofikjbdaa
/- what the laws of chapter 5 begin with -/
namespace Go.Proofs.Ytgljhfofikjbdaa
open Go.RowKit
set_option maxRecDepth 20000
set_option linter.unusedSimpArgs false
set_option linter.unusedVariables false

theorem celL_len {c : Cl} (h : cellOkB c = true) : (celL c).length = 1 + c.data.size := by
  unfold celL
  by_cases hs : c.set = true
  · rw [if_pos hs, List.length_append, leL_len, size_list]
  · rw [if_neg hs, leL_len]
    unfold cellOkB at h
    have hst : c.set = false := by simpa using hs
    rw [hst] at h
    simp at h
    rw [h.2]; rfl
theorem enS_size {e : Ent} (h : entOkB e = true) : (enS e).size = 48 + e.ch.before.data.size + e.ch.after.data.size + e.blob.size := by
  obtain ⟨_, _, _, _, cb, ca⟩ := chOk_parts (ent_in h).ch
  rw [← size_list, enS_toL]
  unfold enL
  simp only [List.length_append, leL_len, celL_len cb, celL_len ca, size_list]
  omega
theorem encE_ok {e : Ent} (h : entOkB e = true) : encE e = (enS e, 0) := by unfold encE; rw [if_neg (by rw [h]; decide)]
theorem encE_no {e : Ent} (h : entOkB e = false) : encE e = (emptyS, 12) := by unfold encE; rw [if_pos h]; rfl
theorem enc_at {e : Ent} {S : ByteArray} {n : Int} (h : encE e = (S, n)) (he : GoodEn e) (w : World) : Calls Try.prog 12 #[.agg (enCells e).toArray] w fun r w' => r = .returned (.tuple #[.string S, .int .i64 n]) ∧ Below w.heap.size w w' := by
  have := encode_en e w he
  rw [h] at this
  exact this
theorem dec_at {s : ByteArray} {x : Ent} {n : Int} (h : decP s = (x, n)) (hs : s.size ≤ 1000000000) (w : World) : Calls Try.prog 20 #[.string s] w fun r w' => r = .returned (.tuple #[.agg (enCells x).toArray, .int .i64 n]) ∧ Below w.heap.size w w' := by
  have := decode_any s w hs
  rw [h] at this
  exact this.mono fun e w' hp => ⟨hp.1, hp.2.2⟩
theorem dec_good {s : ByteArray} {x : Ent} {n : Int} (h : decP s = (x, n)) (hs : s.size ≤ 1000000000) : GoodEn x := by
  rcases hr : enRd ⟨s, 0⟩ with ⟨y, r⟩
  have hg : GoodEn y := by
    rcases h1 : numP 8 ⟨s, 0⟩ with ⟨x1, r1⟩
    rcases h2 : numP 1 r1 with ⟨x2, r2⟩
    rcases h3 : numP 4 r2 with ⟨x3, r3⟩
    rcases h4 : numP 8 r3 with ⟨x4, r4⟩
    rcases h5 : numP 8 r4 with ⟨x5, r5⟩
    rcases h6 : numP 8 r5 with ⟨x6, r6⟩
    rcases h7 : numP 4 r6 with ⟨x7, r7⟩
    rcases h8 : numP 1 r7 with ⟨x8, r8⟩
    rcases h9 : cellRd r8 with ⟨x9, r9⟩
    rcases h10 : cellRd r9 with ⟨x10, r10⟩
    rcases h11 : numP 4 r10 with ⟨x11, r11⟩
    rcases h12 : dataP x11 r11 with ⟨x12, r12⟩
    rw [enRd_of h1 h2 h3 h4 h5 h6 (chRd_of h7 h8 h9 h10) h11 h12] at hr
    obtain ⟨rfl, rfl⟩ := Prod.mk.inj hr
    have z : ∀ {z r n r'}, numP z r = (n, r') → r'.rest.size ≤ r.rest.size := fun {z r n r'} h => by have := numP_size z r; rw [h] at this; exact this
    have z1 := z h1
    have z2 := z h2
    have z3 := z h3
    have z4 := z h4
    have z5 := z h5
    have z6 := z h6
    have z7 := z h7
    have z8 := z h8
    have z11 := z h11
    have zs : (⟨s, 0⟩ : Rs).rest.size ≤ 1000000000 := hs
    have zc : ∀ {r c r'}, cellRd r = (c, r') → r.rest.size ≤ 1000000000 → r'.rest.size ≤ r.rest.size ∧ c.data.size ≤ 1000000000 := fun {r c r'} h hr => by
      rcases hn : numP 1 r with ⟨n, q⟩
      have hq := z hn
      rw [cellRd_of hn] at h
      split at h
      · obtain ⟨rfl, rfl⟩ := Prod.mk.inj h; exact ⟨hq, by decide⟩
      · split at h
        · obtain ⟨rfl, rfl⟩ := Prod.mk.inj h; exact ⟨by rw [failP_size]; exact hq, by decide⟩
        · rcases hd : dataP n q with ⟨d, q2⟩
          rw [hd] at h
          obtain ⟨rfl, rfl⟩ := Prod.mk.inj h
          have hd2 := dataP_size n q
          rw [hd] at hd2
          exact ⟨Nat.le_trans hd2 hq, dataP_out hd (by omega)⟩
    have z9 := zc h9 (by omega)
    have z10 := zc h10 (by omega)
    exact ⟨numP_wf h1, numP_wf h2, numP_wf h3, numP_wf h4, numP_wf h5, numP_wf h6, ⟨numP_wf h7, numP_wf h8, cell_read _ z9.2, cell_read _ z10.2⟩, by have := dataP_out h12 (by omega); show x12.size ≤ maxLen; unfold maxLen; omega⟩
  rw [decP_of hr] at h
  split at h
  · split at h
    · split at h
      · obtain ⟨rfl, _⟩ := Prod.mk.inj h; exact hg
      · obtain ⟨rfl, _⟩ := Prod.mk.inj h; exact enNil_good
    · obtain ⟨rfl, _⟩ := Prod.mk.inj h; exact enNil_good
  · obtain ⟨rfl, _⟩ := Prod.mk.inj h; exact enNil_good
/-- the example of the chapter -/
def exE : Ent := ⟨9, 3, 2, 8, 0, 0, chNil, emptyS⟩
theorem exE_ok : entOkB exE = true := by
  have hz : emptyS.size = 0 := rfl
  simp [exE, entOkB, kindB, befB, ruleF, markF, isTxB, posB, zeroB, noRefB, noChB, noBlobB, hz, sameV_self]
theorem exE_good : GoodEn exE := ⟨by decide, by decide, by decide, by decide, by decide, by decide, nil_good, by decide⟩
theorem build_ex (W : World) : Sem.run Try.prog (Instr.build 28 #[(0, .int .i64 9), (1, .int .i64 3), (2, .int .i64 2), (3, .int .i64 8)]) W = .ok (.agg (enCells exE).toArray) W := by kernel_rfl
set_option maxHeartbeats 4000000 in
theorem awake_en (w : World) : Calls Try.prog 8 #[] w fun e w' => e = .returned (.bool true) ∧ Below w.heap.size w w' := by
  obtain ⟨S, hS⟩ : ∃ S, enS exE = S := ⟨_, rfl⟩
  have hz := enS_size exE_ok
  have hd := dec_enc exE_ok
  have he := encE_ok exE_ok
  rw [hS] at hz hd he
  have hz48 : S.size = 48 := hz
  have hzb : ((S.size : Int) == 48) = true := by rw [hz48]; rfl
  have HE := Lib.hid (fun W => enc_at he exE_good W)
  have HD := Lib.hid (fun W => dec_at hd (by omega) W)
  clear hS hz hd he hz48
  obtain ⟨fsHUE, huHUE⟩ := under_en
  have HUE := Lib.hid huHUE
  clear huHUE
  have HS0 := Lib.hid (Hp.start w)
  go_enter Try.func8, Try.ntmps8
  go_wp2_with (first | ((with_reducible refine wpList_build_v (d := some 6) 28 (.agg (enCells exE).toArray) ?_ ?_); (intro W; simp only [List.map_toArray, List.map_cons, List.map_nil]; exact build_ex W); simp only [Act.put, List.setIfInBounds_toArray, List.set_cons_zero, List.set_cons_succ]))
  refine (HE.out _).mono ?_
  rintro e w2 ⟨rfl, hb⟩
  have HS2 : Hid (Hp w [] w2) := (HS0.out).calls hb
  clear hb
  clear HS0
  go_wp2_with fail
  refine (HD.out _).mono ?_
  rintro e w3 ⟨rfl, hb⟩
  have HS3 : Hid (Hp w [] w3) := (HS2.out).calls hb
  clear hb
  clear HS2
  go_upto_region 3 with (first | ((with_reducible refine wpList_alloc_ob 28 (enCells enNil) ?_ ?_); (exact alloc_en); simp only [Act.put, List.setIfInBounds_toArray, List.set_cons_zero, List.set_cons_succ]) | ((with_reducible refine wpList_store_ob 28 (.tmp 3) (w3.heap.size) (enCells exE) (enCells enNil) 28 ?_ ?_ ?_ ?_ ?_ ?_ ?_); (exact rfl); (exact rfl); (exact ((HS3.out).put 28 (enCells enNil)).get 0 rfl); (exact info_en); (exact rfl); (exact (oneCell_en _)); skip))
  have HS4 : Hid (Hp w [.ob (w3.heap.size) 28 (enCells exE)] ((w3.alloc (.cells (enCells enNil).toArray 28)).setRow (w3.heap.size) (enCells exE).toArray)) := ((HS3.out).put 28 (enCells enNil)).row 0 rfl (enCells exE)
  clear HS3
  generalize ((w3.alloc (.cells (enCells enNil).toArray 28)).setRow (w3.heap.size) (enCells exE).toArray) = w4 at *
  generalize w3.heap.size = B1 at *
  have c0 : w4.cell? ⟨B1, 0, none⟩ = some (.int .i64 9) := (HS4.out).at 0 rfl 0 rfl
  have c2 : w4.cell? ⟨B1, 2, none⟩ = some (.int .i64 2) := (HS4.out).at 0 rfl 2 rfl
  go_wp2_with fail
  go_ret
  exact ⟨rfl, (HS4.out).old⟩
end Go.Proofs.Ytgljhfofikjbdaa
/- words that came in by value, opened -/
namespace Go.Proofs.Ytgljhfofikjbdaa
open Go.RowKit

def boolOf : Value → Bool | .bool b => b | _ => false
def textOf : Value → ByteArray | .string s => s | _ => ⟨#[]⟩
theorem cell_int {W : World} {r : Reach} {b0 : Nat} {v : Value} (h : Cell.okWide Try.prog W r b0 3 v) : v = .int .i64 (intOf v) ∧ (Lit.int .i64 (intOf v)).wf = true := by
  unfold Cell.okWide Cell.ok at h
  simp only [Try.underlying3] at h
  cases v <;> simp_all [intOf, Lit.wf, IntKind.has]
theorem cell_bool {W : World} {r : Reach} {b0 : Nat} {v : Value} (h : Cell.okWide Try.prog W r b0 4 v) : v = .bool (boolOf v) := by
  unfold Cell.okWide Cell.ok at h
  simp only [Try.underlying4] at h
  cases v <;> simp_all [boolOf]
theorem cell_text {W : World} {r : Reach} {b0 : Nat} {v : Value} (h : Cell.okWide Try.prog W r b0 9 v) : v = .string (textOf v) ∧ (textOf v).size ≤ maxLen := by
  unfold Cell.okWide Cell.ok at h
  simp only [Try.underlying9] at h
  cases v <;> simp_all [textOf]
  unfold maxLen
  have hm : IntKind.i64.max = 9223372036854775807 := by rfl
  first | omega | (rw [hm] at h; omega)
end Go.Proofs.Ytgljhfofikjbdaa
/- a change that came in by value, opened -/
namespace Go.Proofs.Ytgljhfofikjbdaa
open Go.RowKit

def chTypes : List TypeId := [3, 3, 4, 9, 4, 9]
theorem ch_types : Try.prog.cellTypes Try.prog.depth 26 = some chTypes := by kernel_rfl
theorem open_change {W : World} {r : Reach} {b0 : Nat} {v : Value} (hval : Value.okWide Try.prog W r b0 26 v) : ∃ c, v = .agg (chCells c).toArray ∧ GoodCh c := by
  obtain ⟨cs, rfl, hsz, ts, hts, _, hcell⟩ : ∃ cs, v = .agg cs ∧ cs.size = Try.prog.cellsOf 26 ∧ Row.okWide Try.prog W r b0 26 cs := by
    unfold Value.okWide at hval
    rw [Try.underlying26] at hval
    exact hval
  rw [ch_types] at hts
  obtain rfl : chTypes = ts := Option.some.inj hts
  rw [cellsOf_ch] at hsz
  obtain ⟨l⟩ := cs
  match l, hsz with
  | [v0, v1, v2, v3, v4, v5], _ =>
    have hat : ∀ i (h : i < 6) u x, ([v0, v1, v2, v3, v4, v5] : List Value)[i]? = some x → chTypes[i]? = some u → Cell.okWide Try.prog W r b0 u x := fun i h u x hx hu => by
      obtain ⟨u', hu', hc⟩ := hcell i x (by rw [List.getElem?_toArray]; exact hx)
      rw [show chTypes.length = 6 from rfl, Nat.mod_eq_of_lt h, hu] at hu'
      obtain rfl := Option.some.inj hu'
      exact hc
    have h0 := cell_int (hat 0 (by omega) 3 v0 rfl rfl)
    have h1 := cell_int (hat 1 (by omega) 3 v1 rfl rfl)
    have h2 := cell_bool (hat 2 (by omega) 4 v2 rfl rfl)
    have h3 := cell_text (hat 3 (by omega) 9 v3 rfl rfl)
    have h4 := cell_bool (hat 4 (by omega) 4 v4 rfl rfl)
    have h5 := cell_text (hat 5 (by omega) 9 v5 rfl rfl)
    refine ⟨⟨intOf v0, intOf v1, ⟨boolOf v2, textOf v3⟩, ⟨boolOf v4, textOf v5⟩⟩, ?_, ⟨h0.2, h1.2, h3.2, h5.2⟩⟩
    unfold chCells
    simp only
    rw [← h0.1, ← h1.1, ← h2, ← h3.1, ← h4, ← h5.1]
/-- the empty change, as the witness brings it, and its reading -/
def chNilV : Value := .agg (chCells chNil).toArray
def chNilD {H : Type} : DataW H := .agg [.lit (.int .i64 0), .lit (.int .i64 0), .agg [.lit (.bool false), .lit (.string [])], .agg [.lit (.bool false), .lit (.string [])]]
end Go.Proofs.Ytgljhfofikjbdaa
/- an entry that came in by value, opened; slices of entries -/
namespace Go.Proofs.Ytgljhfofikjbdaa
open Go.RowKit
set_option maxRecDepth 20000
set_option linter.unusedSimpArgs false
set_option linter.unusedVariables false

theorem elem_en : ElemIs 28 13 128 := ⟨info_of (by kernel_rfl : (Try.prog.info? 28).map (fun i => (i.zero, i.size, i.bytes)) = some (some (.agg (enCells enNil).toArray), 13, 128)) |>.imp fun i h => ⟨_, h.1, h.2.1, h.2.2.1, h.2.2.2, rfl⟩, by decide, by decide, by decide⟩
theorem under_ens : Try.prog.underlying 34 = some (.slice 28) := by kernel_rfl
theorem elem_str : ElemIs 9 1 16 := ⟨info_of (by kernel_rfl : (Try.prog.info? 9).map (fun i => (i.zero, i.size, i.bytes)) = some (some (.string ⟨#[]⟩), 1, 16)) |>.imp fun i h => ⟨_, h.1, h.2.1, h.2.2.1, h.2.2.2, rfl⟩, by decide, by decide, by decide⟩
theorem under_strs : Try.prog.underlying 42 = some (.slice 9) := by kernel_rfl
def enTypes : List TypeId := [3, 3, 3, 3, 3, 3, 3, 3, 4, 9, 4, 9, 9]
theorem en_types : Try.prog.cellTypes Try.prog.depth 28 = some enTypes := by kernel_rfl
theorem open_entry {W : World} {r : Reach} {b0 : Nat} {v : Value} (hval : Value.okWide Try.prog W r b0 28 v) : ∃ c, v = .agg (enCells c).toArray ∧ GoodEn c := by
  obtain ⟨cs, rfl, hsz, ts, hts, _, hcell⟩ : ∃ cs, v = .agg cs ∧ cs.size = Try.prog.cellsOf 28 ∧ Row.okWide Try.prog W r b0 28 cs := by
    unfold Value.okWide at hval
    rw [Try.underlying28] at hval
    exact hval
  rw [en_types] at hts
  obtain rfl : enTypes = ts := Option.some.inj hts
  rw [cellsOf_en] at hsz
  obtain ⟨l⟩ := cs
  match l, hsz with
  | [v0, v1, v2, v3, v4, v5, v6, v7, v8, v9, v10, v11, v12], _ =>
    have hat : ∀ i (h : i < 13) u x, ([v0, v1, v2, v3, v4, v5, v6, v7, v8, v9, v10, v11, v12] : List Value)[i]? = some x → enTypes[i]? = some u → Cell.okWide Try.prog W r b0 u x := fun i h u x hx hu => by
      obtain ⟨u', hu', hc⟩ := hcell i x (by rw [List.getElem?_toArray]; exact hx)
      rw [show enTypes.length = 13 from rfl, Nat.mod_eq_of_lt h, hu] at hu'
      obtain rfl := Option.some.inj hu'
      exact hc
    have h0 := cell_int (hat 0 (by omega) 3 v0 rfl rfl)
    have h1 := cell_int (hat 1 (by omega) 3 v1 rfl rfl)
    have h2 := cell_int (hat 2 (by omega) 3 v2 rfl rfl)
    have h3 := cell_int (hat 3 (by omega) 3 v3 rfl rfl)
    have h4 := cell_int (hat 4 (by omega) 3 v4 rfl rfl)
    have h5 := cell_int (hat 5 (by omega) 3 v5 rfl rfl)
    have h6 := cell_int (hat 6 (by omega) 3 v6 rfl rfl)
    have h7 := cell_int (hat 7 (by omega) 3 v7 rfl rfl)
    have h8 := cell_bool (hat 8 (by omega) 4 v8 rfl rfl)
    have h9 := cell_text (hat 9 (by omega) 9 v9 rfl rfl)
    have h10 := cell_bool (hat 10 (by omega) 4 v10 rfl rfl)
    have h11 := cell_text (hat 11 (by omega) 9 v11 rfl rfl)
    have h12 := cell_text (hat 12 (by omega) 9 v12 rfl rfl)
    refine ⟨⟨intOf v0, intOf v1, intOf v2, intOf v3, intOf v4, intOf v5, ⟨intOf v6, intOf v7, ⟨boolOf v8, textOf v9⟩, ⟨boolOf v10, textOf v11⟩⟩, textOf v12⟩, ?_, ⟨h0.2, h1.2, h2.2, h3.2, h4.2, h5.2, ⟨h6.2, h7.2, h9.2, h11.2⟩, h12.2⟩⟩
    unfold enCells
    simp only
    rw [← h0.1, ← h1.1, ← h2.1, ← h3.1, ← h4.1, ← h5.1, ← h6.1, ← h7.1, ← h8, ← h9.1, ← h10, ← h11.1, ← h12.1]
def enNilV : Value := .agg (enCells enNil).toArray
def enNilD {H : Type} : DataW H := .agg [.lit (.int .i64 0), .lit (.int .i64 0), .lit (.int .i64 0), .lit (.int .i64 0), .lit (.int .i64 0), .lit (.int .i64 0), .agg [.lit (.int .i64 0), .lit (.int .i64 0), .agg [.lit (.bool false), .lit (.string [])], .agg [.lit (.bool false), .lit (.string [])]], .lit (.string [])]
theorem renc_at {e : Ent} {S : ByteArray} {n : Int} (h : encE e = (S, n)) (he : GoodEn e) (w : World) : Calls Try.prog 13 #[.agg (enCells e).toArray] w fun r w' => r = .returned (.tuple #[.string S, .int .i64 n]) ∧ Below w.heap.size w w' := by
  have := rencode_en e w he
  rw [h] at this
  exact this
theorem rdec_at {s : ByteArray} {x : Ent} {n : Int} (h : decP s = (x, n)) (hs : s.size ≤ 1000000000) (w : World) : Calls Try.prog 21 #[.string s] w fun r w' => r = .returned (.tuple #[.agg (enCells x).toArray, .int .i64 n]) ∧ Below w.heap.size w w' := by
  have := rdecode_any s w hs
  rw [← dec_same, h] at this
  exact this.mono fun e w' hp => ⟨hp.1, hp.2.2⟩
theorem neq_str (T : ByteArray) (W : World) : Sem.run Try.prog (binOp .neq 9 (.string T) (.string T)) W = .ok (.bool false) W := by go_simp
end Go.Proofs.Ytgljhfofikjbdaa
