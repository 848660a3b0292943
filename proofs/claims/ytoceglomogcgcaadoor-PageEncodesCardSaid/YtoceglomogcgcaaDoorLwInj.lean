/- the law PageInjective -/
import Derived.Test.YtoceglomogcgcaaDoorLwEnv
import Derived.Test.YtoceglomogcgcaaDoorPgEq
import Derived.Test.YtoceglomogcgcaaDoorRfSeal
namespace Go.Proofs.YtoceglomogcgcaaDoor
open Go.RowKit

theorem good_of {p : Pg} (hl : p.cells.length = 16) (hd : ∀ c ∈ p.cells, c.data.size ≤ 13) (hi : -9223372036854775808 ≤ p.id ∧ p.id ≤ 9223372036854775807) (hn : -9223372036854775808 ≤ p.lsn ∧ p.lsn ≤ 9223372036854775807) : Good p :=
  ⟨hl, by simp [Lit.wf, IntKind.min, IntKind.max, IntKind.bits, IntKind.signed]; omega, by simp [Lit.wf, IntKind.min, IntKind.max, IntKind.bits, IntKind.signed]; omega, fun c hc => by have := hd c hc; unfold maxLen; omega⟩
theorem Drawn.good {p : Pg} {id : Int} (h : Drawn p id) (h0 : 0 ≤ id) (h1 : id < 64) : Good p :=
  good_of h.len (fun c hc => by have := h.data c hc; omega) ⟨by rw [h.id]; omega, by rw [h.id]; omega⟩ ⟨by have := h.lsn0; omega, by have := h.lsn1; omega⟩
theorem draw_odd (C : Nat) (p : Pg) (id : Int) (w : World) (h : CodesOk w C) (hp : Drawn p id) (h0 : 0 ≤ id) (h1 : id < 64) :
    Calls Tryd.prog 14 #[.pointer (some ⟨C, 0, none⟩), .agg (pgCells p).toArray] w fun e w' => ∃ r : Pg, e = .returned (.agg (pgCells r).toArray) ∧ Good r ∧ (∀ c ∈ r.cells, c.data.size ≤ 13) ∧ Besides C w w' ∧ CodesOk w' C :=
  (odd_any C p w h hp.len (fun c hc => by have := hp.data c hc; omega) ⟨by rw [hp.id]; omega, by rw [hp.id]; omega⟩ ⟨by have := hp.lsn0; omega, by have := hp.lsn1; omega⟩).mono (by
    rintro e w' ⟨r, rfl, a1, a2, a3, a4, a5, a6⟩
    exact ⟨r, rfl, good_of a1 a2 a3 a4, a2, a5, a6⟩)
/-- what a page's bytes are, whether it is valid or not -/
theorem enc_any {p : Pg} (hp : Good p) (w : World) (ht : TabAt w) :
    Calls Tryd.prog 15 #[.agg (pgCells p).toArray] w fun e w' => e = .returned (.tuple #[.string (encR p).1, .int .i64 (encR p).2]) ∧ Below w.heap.size w w' := encode_any p w hp.len hp.data ht
theorem enc_inj {p q : Pg} (hp : checkR p = 0) (hpl : p.cells.length = 16) (hq : checkR q = 0) (hql : q.cells.length = 16) : ofL (encL p) = ofL (encL q) ↔ p = q := by
  constructor
  · intro h
    have h1 := dec_enc hp hpl
    have h2 := dec_enc hq hql
    rw [h] at h1
    exact (Prod.mk.inj (h1.symm.trans h2)).1
  · rintro rfl; rfl
theorem strBeqIff {a b : ByteArray} {t : Bool} (h : a = b ↔ t = true) : (a.toList == b.toList) = t := by
  rw [strBeq, Bool.eq_iff_iff, decide_eq_true_iff]
  exact h
theorem valid_iff (p : Pg) : (numB p && cellsB p) = (checkR p == 0) := by
  unfold checkR
  cases hn : numB p
  · simp
  · cases hc : cellsB p <;> simp
set_option maxHeartbeats 8000000 in
set_option maxRecDepth 20000 in
theorem inj_any (x : Option Addr) (len cap : Nat) (zs : List Int) (x' : Option Addr) (len' cap' : Nat) (zs' : List Int) (w : World) (hr : IsRow .u8 w x len cap zs) (hr' : IsRow .u8 w x' len' cap' zs') (ht : TabAt w) :
    Calls Tryd.prog 9 #[.slice x len cap, .slice x' len' cap'] w fun e w' => e = .returned (.bool true) ∧ Below w.heap.size w w' := by
  have HT := Lib.hid ht
  have HR := Lib.hid hr
  have HR' := Lib.hid hr'
  clear ht hr hr'
  go_enter Tryd.func9, Tryd.ntmps9
  go_wp2_with fail
  refine (awake_page _ HT.out).mono ?_
  rintro e w1 ⟨rfl, hb⟩
  have HR1 := Lib.hid (row_below HR.out hb)
  go_wp2_with fail
  refine (new_to 100 (by omega) _ _ _ zs _ HR1.out).mono ?_
  rintro e w2 ⟨rfl, hb2, hc2⟩
  have HE2 := Lib.hid (start_env hb hb2 hc2 HT.out)
  have HR2 := Lib.hid (row_below HR'.out HE2.out.old)
  clear hb hb2 hc2 HR HR1
  generalize w1.heap.size = C at *
  go_wp2_with fail
  refine (new_at 100 (by omega) _ _ _ zs' _ HR2.out).mono ?_
  rintro e w2b ⟨rfl, hb3, hc3, hl3⟩
  have HE3 := Lib.hid (HE2.out.calls hb3)
  have HF3 : Hid (Fresh w C w2.heap.size w2b) := ⟨⟨HE3.out.old, hc3, by have := HE2.out.le; have := HE2.out.codes.lt; omega, HE3.out.tab⟩, HE2.out.codes.lt, HE2.out.le, by
    obtain ⟨l, c, h1, h2⟩ := hl3
    exact ⟨_, l, c, h1, fun h0 => row_low HR'.out (h2 h0)⟩⟩
  clear hb3 hc3 hl3 HR2
  generalize w2.heap.size = D at *
  go_wp2_with fail
  refine (next_any C 3 _ HE3.out.codes (by omega)).mono ?_
  rintro e w3 ⟨id, rfl, id0, id1, hb4, hc4⟩
  have HE4 := Lib.hid (HE3.out.besides HT.out hb4 hc4)
  have HF4 := Lib.hid (HF3.out.keep HT.out hb4)
  have HId : Hid (0 ≤ id ∧ id < 64) := ⟨id0, by omega⟩
  clear hb4 hc4 id0 id1 HE3 HF3
  go_wp2_with fail
  refine (draw_page C id _ HE4.out.codes).mono ?_
  rintro e w4 ⟨p, rfl, hp, hb5, hc5⟩
  have HE5 := Lib.hid (HE4.out.besides HT.out hb5 hc5)
  have HF5 := Lib.hid (HF4.out.keep HT.out hb5)
  have HP := Lib.hid hp
  clear hb5 hc5 hp HE4 HF4
  go_wp2_with fail
  refine (next_any D 3 _ HF5.out.env.codes (by omega)).mono ?_
  rintro e w5 ⟨id', rfl, id0, id1, hb6, hc6⟩
  have HE6 := Lib.hid (HE5.out.keep HT.out HF5.out.lt hb6)
  have HF6 := Lib.hid (HF5.out.env.besides HT.out hb6 hc6)
  have HCD := Lib.hid HF5.out.lt
  have HId' : Hid (0 ≤ id' ∧ id' < 64) := ⟨id0, by omega⟩
  clear hb6 hc6 id0 id1 HE5 HF5
  go_wp2_with fail
  refine (draw_page D id' _ HF6.out.codes).mono ?_
  rintro e w6 ⟨q, rfl, hq, hb7, hc7⟩
  have HE7 := Lib.hid (HE6.out.keep HT.out HCD.out hb7)
  have HQ := Lib.hid hq
  clear hb7 hc7 hq HE6 HF6
  have HA1 := Lib.hid (two_first w6)
  have HA2 := Lib.hid (two_second' w6 p)
  have HE8 := Lib.hid (HE7.out.calls (putPg2_below w6 p q))
  have HI := Lib.hid (putPg2_at w6 p q)
  have HNC : Hid (w6.heap.size ≠ C ∧ w6.heap.size + 1 ≠ C) := by have := HE7.out.codes.lt; exact ⟨by omega, by omega⟩
  have HPd : Hid (putPg2 w6 p q = (((w6.alloc (.cells (pgCells (newPg 0)).toArray 27)).alloc (.cells (pgCells (newPg 0)).toArray 27)).setRow w6.heap.size (pgCells p).toArray).setRow (w6.heap.size + 1) (pgCells q).toArray) := rfl
  have HG1 : Hid (PgIn ((((w6.alloc (.cells (pgCells (newPg 0)).toArray 27)).alloc (.cells (pgCells (newPg 0)).toArray 27)).setRow w6.heap.size (pgCells p).toArray).setRow (w6.alloc (.cells (pgCells (newPg 0)).toArray 27)).heap.size (pgCells q).toArray) w6.heap.size p) := by show PgIn _ _ _; rw [World.size_alloc]; exact HI.out.1
  go_wp2_with (first | ((with_reducible refine wpList_alloc_pg ?_); simp only [Act.put, List.setIfInBounds_toArray, List.set_cons_zero, List.set_cons_succ]) | ((with_reducible refine wpList_store_pg (.tmp 7) w6.heap.size p (newPg 0) ?_ ?_ ?_ ?_ ?_ ?_); (exact rfl); (exact rfl); (exact HA1.out); (exact HP.out.len); (exact rfl); skip) | ((with_reducible refine wpList_store_pg (.tmp 8) (w6.alloc (.cells (pgCells (newPg 0)).toArray 27)).heap.size q (newPg 0) ?_ ?_ ?_ ?_ ?_ ?_); (exact rfl); (exact rfl); (exact HA2.out); (exact HQ.out.len); (exact rfl); skip) | ((with_reducible refine wpList_load_pg (.tmp 7) w6.heap.size p ?_ ?_ ?_ ?_); (exact rfl); (exact HG1.out); (exact HP.out.len); simp only [Act.put, List.setIfInBounds_toArray, List.set_cons_zero, List.set_cons_succ]))
  rw [World.size_alloc]
  rw [← HPd.out]
  have HW8 : Hid (PgIn (putPg2 w6 p q) (w6.heap.size + 1) q) := HI.out.2
  have HV8 : Hid (PgIn (putPg2 w6 p q) w6.heap.size p) := HI.out.1
  clear HA1 HA2 HG1 HE7
  generalize putPg2 w6 p q = w8 at *
  generalize w6.heap.size + 1 = BQ at *
  generalize w6.heap.size = BP at *
  refine (draw_odd C p id _ HE8.out.codes HP.out HId.out.1 HId.out.2).mono ?_
  rintro e w9 ⟨r, rfl, hr, hr13, hb9, hc9⟩
  have HE9 := Lib.hid (HE8.out.besides HT.out hb9 hc9)
  have HBC : Hid (BP ≠ C ∧ BQ ≠ C) := HNC.out
  have HP9 : Hid (PgIn w9 BP p) := HV8.out.besides hb9 HBC.out.1
  have HQ9 : Hid (PgIn w9 BQ q) := HW8.out.besides hb9 HBC.out.2
  have HRg := Lib.hid hr
  clear hb9 hc9 hr hr13 HE8 HV8 HW8
  have HGa : Hid (PgIn (w9.alloc (.cells (pgCells (newPg 0)).toArray 27)) w9.heap.size (newPg 0)) := heap_alloc_last w9 _
  have HE10 := Lib.hid (HE9.out.calls (putPg_below w9 r))
  have HP10 := Lib.hid (HP9.out.calls (putPg_below w9 r))
  have HQ10 := Lib.hid (HQ9.out.calls (putPg_below w9 r))
  have HR10 := Lib.hid (putPg_at w9 r)
  have HDf : Hid (putPg w9 r = (w9.alloc (.cells (pgCells (newPg 0)).toArray 27)).setRow w9.heap.size (pgCells r).toArray) := rfl
  have HP10' := HP10
  rw [HDf.out] at HP10'
  have HPl := Lib.hid HP.out.len
  have HQl := Lib.hid HQ.out.len
  have HRl := Lib.hid HRg.out.len
  go_wp2_with (first | ((with_reducible refine wpList_alloc_pg ?_); simp only [Act.put, List.setIfInBounds_toArray, List.set_cons_zero, List.set_cons_succ]) | ((with_reducible refine wpList_store_pg (.tmp 9) w9.heap.size r (newPg 0) ?_ ?_ ?_ ?_ ?_ ?_); (exact rfl); (exact rfl); (exact HGa.out); (exact HRl.out); (exact rfl); skip) | ((with_reducible refine wpList_load_pg (.tmp 7) BP p ?_ ?_ ?_ ?_); (exact rfl); (exact HP10'.out); (exact HPl.out); simp only [Act.put, List.setIfInBounds_toArray, List.set_cons_zero, List.set_cons_succ]))
  rw [← HDf.out]
  clear HGa HP10' HE9 HP9 HQ9
  generalize putPg w9 r = w10 at *
  generalize w9.heap.size = BR at *
  refine (enc_ok (HP.out.check HId.out.1 HId.out.2) HP.out.len _ HE10.out.tab).mono ?_
  rintro e w11 ⟨rfl, hb11⟩
  have HE11 := Lib.hid (HE10.out.calls hb11)
  have HP11 := Lib.hid (HP10.out.calls hb11)
  have HQ11 := Lib.hid (HQ10.out.calls hb11)
  have HR11 := Lib.hid (HR10.out.calls hb11)
  clear hb11 HE10 HP10 HQ10 HR10
  go_wp2_with ((with_reducible refine wpList_load_pg (.tmp 8) BQ q ?_ ?_ ?_ ?_); (exact rfl); (exact HQ11.out); (exact HQl.out); simp only [Act.put, List.setIfInBounds_toArray, List.set_cons_zero, List.set_cons_succ])
  refine (enc_ok (HQ.out.check HId'.out.1 HId'.out.2) HQ.out.len _ HE11.out.tab).mono ?_
  rintro e w12 ⟨rfl, hb12⟩
  have HE12 := Lib.hid (HE11.out.calls hb12)
  have HP12 := Lib.hid (HP11.out.calls hb12)
  have HQ12 := Lib.hid (HQ11.out.calls hb12)
  have HR12 := Lib.hid (HR11.out.calls hb12)
  clear hb12 HE11 HP11 HQ11 HR11
  go_wp2_with ((with_reducible refine wpList_load_pg (.tmp 9) BR r ?_ ?_ ?_ ?_); (exact rfl); (exact HR12.out); (exact HRl.out); simp only [Act.put, List.setIfInBounds_toArray, List.set_cons_zero, List.set_cons_succ])
  refine (enc_any HRg.out _ HE12.out.tab).mono ?_
  rintro e w13 ⟨rfl, hb13⟩
  have HE13 := Lib.hid (HE12.out.calls hb13)
  have HP13 := Lib.hid (HP12.out.calls hb13)
  have HQ13 := Lib.hid (HQ12.out.calls hb13)
  have HR13 := Lib.hid (HR12.out.calls hb13)
  clear hb13 HE12 HP12 HQ12 HR12
  have hcp := HP.out.check HId.out.1 HId.out.2
  have hcq := HQ.out.check HId'.out.1 HId'.out.2
  have hpq : ∀ W, Sem.run Tryd.prog (binOp .eql 27 (.agg (pgCells p).toArray) (.agg (pgCells q).toArray)) W = .ok (.bool (samePg p q)) W := run_page_eql p q (HP.out.good HId.out.1 HId.out.2) (HQ.out.good HId'.out.1 HId'.out.2)
  have hpr : ∀ W, Sem.run Tryd.prog (binOp .eql 27 (.agg (pgCells p).toArray) (.agg (pgCells r).toArray)) W = .ok (.bool (samePg p r)) W := run_page_eql p r (HP.out.good HId.out.1 HId.out.2) HRg.out
  have hst : ((ofL (encL p)).toList == (ofL (encL q)).toList) = samePg p q := strBeqIff ((enc_inj hcp HP.out.len hcq HQ.out.len).trans samePg_iff.symm)
  have HVal : Hid (∀ W : World, Calls Tryd.prog 18 #[.agg (pgCells r).toArray] W fun e w' => e = .returned (.bool (checkR r == 0)) ∧ Below W.heap.size W w') := fun W => by
    have := rvalid r W HRg.out.len HRg.out.data
    rw [valid_iff] at this
    exact this
  by_cases hcr : checkR r = 0
  · have hE : encR r = (ofL (encL r), 0) := by unfold encR; rw [if_pos hcr]
    have hsu : ((ofL (encL p)).toList == (ofL (encL r)).toList) = samePg p r := strBeqIff ((enc_inj hcp HP.out.len hcr HRg.out.len).trans samePg_iff.symm)
    rw [hE]
    have hv : (checkR r == 0) = true := by rw [hcr]; rfl
    rw [hv] at HVal
    clear hE hv hcr hcp hcq
    generalize ofL (encL p) = S1 at *
    generalize ofL (encL q) = T1 at *
    generalize ofL (encL r) = U1 at *
    generalize samePg p q = b1 at *
    generalize samePg p r = b2 at *
    go_wp2_with ((with_reducible refine wpList_load_pg_w (.tmp 9) BR r ?_ ?_ ?_ ?_ ?_); (exact rfl); (exact rfl); (exact HR13.out); (exact HRl.out); simp only [Act.put, List.setIfInBounds_toArray, List.set_cons_zero, List.set_cons_succ])
    refine (HVal.out _).mono ?_
    rintro e w14 ⟨rfl, hb14⟩
    have HE14 := Lib.hid (HE13.out.calls hb14)
    have HP14 := Lib.hid (HP13.out.calls hb14)
    have HQ14 := Lib.hid (HQ13.out.calls hb14)
    have HR14 := Lib.hid (HR13.out.calls hb14)
    clear hb14
    cases b1 <;> cases b2
    all_goals go_wp2_with (first | ((with_reducible refine wpList_load_pg (.tmp 7) BP p ?_ ?_ ?_ ?_); (exact rfl); (exact HP14.out); (exact HPl.out); simp only [Act.put, List.setIfInBounds_toArray, List.set_cons_zero, List.set_cons_succ]) | ((with_reducible refine wpList_load_pg (.tmp 8) BQ q ?_ ?_ ?_ ?_); (exact rfl); (exact HQ14.out); (exact HQl.out); simp only [Act.put, List.setIfInBounds_toArray, List.set_cons_zero, List.set_cons_succ]) | ((with_reducible refine wpList_load_pg_w (.tmp 7) BP p ?_ ?_ ?_ ?_ ?_); (exact rfl); (exact rfl); (exact HP14.out); (exact HPl.out); simp only [Act.put, List.setIfInBounds_toArray, List.set_cons_zero, List.set_cons_succ]) | ((with_reducible refine wpList_load_pg_w (.tmp 9) BR r ?_ ?_ ?_ ?_ ?_); (exact rfl); (exact rfl); (exact HR14.out); (exact HRl.out); simp only [Act.put, List.setIfInBounds_toArray, List.set_cons_zero, List.set_cons_succ]))
    all_goals go_ret
    all_goals exact ⟨rfl, HE14.out.old⟩
  · have hE : encR r = (⟨#[]⟩, checkR r) := by unfold encR; rw [if_neg hcr]
    rw [hE]
    have hv : (checkR r == 0) = false := by rw [beq_eq_false_iff_ne]; exact hcr
    have hvn : (checkR r != 0) = true := by rw [bne_iff_ne]; exact hcr
    rw [hv] at HVal
    clear hE hcr hcp hcq
    generalize checkR r = cr at *
    generalize ofL (encL p) = S1 at *
    generalize ofL (encL q) = T1 at *
    generalize samePg p q = b1 at *
    go_wp2_with ((with_reducible refine wpList_load_pg_w (.tmp 9) BR r ?_ ?_ ?_ ?_ ?_); (exact rfl); (exact rfl); (exact HR13.out); (exact HRl.out); simp only [Act.put, List.setIfInBounds_toArray, List.set_cons_zero, List.set_cons_succ])
    refine (HVal.out _).mono ?_
    rintro e w14 ⟨rfl, hb14⟩
    have HE14 := Lib.hid (HE13.out.calls hb14)
    have HP14 := Lib.hid (HP13.out.calls hb14)
    have HQ14 := Lib.hid (HQ13.out.calls hb14)
    have HR14 := Lib.hid (HR13.out.calls hb14)
    clear hb14
    cases b1
    all_goals go_wp2_with (first | ((with_reducible refine wpList_load_pg (.tmp 7) BP p ?_ ?_ ?_ ?_); (exact rfl); (exact HP14.out); (exact HPl.out); simp only [Act.put, List.setIfInBounds_toArray, List.set_cons_zero, List.set_cons_succ]) | ((with_reducible refine wpList_load_pg (.tmp 8) BQ q ?_ ?_ ?_ ?_); (exact rfl); (exact HQ14.out); (exact HQl.out); simp only [Act.put, List.setIfInBounds_toArray, List.set_cons_zero, List.set_cons_succ]) | ((with_reducible refine wpList_load_pg_w (.tmp 7) BP p ?_ ?_ ?_ ?_ ?_); (exact rfl); (exact rfl); (exact HP14.out); (exact HPl.out); simp only [Act.put, List.setIfInBounds_toArray, List.set_cons_zero, List.set_cons_succ]) | ((with_reducible refine wpList_load_pg_w (.tmp 9) BR r ?_ ?_ ?_ ?_ ?_); (exact rfl); (exact rfl); (exact HR14.out); (exact HRl.out); simp only [Act.put, List.setIfInBounds_toArray, List.set_cons_zero, List.set_cons_succ]))
    all_goals go_ret
    all_goals exact ⟨rfl, HE14.out.old⟩
end Go.Proofs.YtoceglomogcgcaaDoor
