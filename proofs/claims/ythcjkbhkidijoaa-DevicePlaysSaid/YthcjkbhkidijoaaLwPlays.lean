/- the law DevicePlays: for every input the call returns true -/
import Derived.Test.YthcjkbhkidijoaaOm4
import Derived.Test.YthcjkbhkidijoaaOm5
import Derived.Deep.CutBlock
namespace Go.Proofs.Ythcjkbhkidijoaa
open Go.RowKit
set_option maxRecDepth 20000
set_option linter.unusedSimpArgs false
set_option linter.unusedVariables false

theorem inject_keep {d X : Dv} {c : Int} {f : Flt} (h : DvOk d) (hg : GoodFlt f) (e : injectR d f = (X, c)) (hc : c = 0) : DvOk X := by
  subst hc
  by_cases hf : fltOkB d.pages.length d.writes f = true
  · by_cases hl : d.faults.length = 64
    · unfold injectR at e
      rw [if_neg (by rw [h.ok]; decide), if_neg (by rw [hf]; decide), if_pos hl] at e
      exact absurd (Prod.mk.inj e).2 (by decide)
    · have h2 := inject_ok h hf hg (by have := h.few; omega)
      rw [h2.1] at e
      rw [← (Prod.mk.inj e).1]
      exact h2.2
  · unfold injectR at e
    rw [if_neg (by rw [h.ok]; decide), if_pos (by simpa using hf)] at e
    exact absurd (Prod.mk.inj e).2 (by decide)
theorem write_keep {d X : Dv} {c : Int} {p : Nat} {s : ByteArray} (h : DvOk d) (hs : s.size = 256) (e : writeR d p s = (X, c)) (hc : c = 0) : DvOk X := by
  subst hc
  by_cases hu : usableR d p = 0
  · have hd : d.dead = false ∧ p < d.pages.length := by
      unfold usableR at hu
      rw [if_neg (by rw [h.ok]; decide)] at hu
      split at hu
      · exact absurd hu (by decide)
      · rename_i hd
        split at hu
        · exact absurd hu (by decide)
        · exact ⟨by simpa using hd, by omega⟩
    by_cases hw : d.writes = 1099511627776
    · unfold writeR at e
      rw [if_neg (fun h => h hu), if_neg (fun h => h hs), if_pos hw] at e
      exact absurd (Prod.mk.inj e).2 (by decide)
    · have h2 := (write_ok h hd.1 hd.2 hs hw).2
      rw [e] at h2
      exact h2
  · unfold writeR at e
    rw [if_pos hu] at e
    exact absurd (Prod.mk.inj e).2 hu
theorem fault_left (C : Nat) (n wr : Int) (w : World) (h : CodesOk w C) (hn : n ≤ 256) :
    Calls Try.prog 24 #[.pointer (some ⟨C, 0, none⟩), .int .i64 n, .int .i64 wr] w fun e w' => ∃ f : Flt, e = .returned (.agg (fltCells f).toArray) ∧ GoodFlt f ∧ Besides C w w' ∧ CodesOk w' C ∧ leftIn w' C ≤ leftIn w C :=
  (fault_m (leftIn w C) C n wr w ⟨h, Nat.le_refl _⟩ hn).mono fun _ _ ⟨f, h1, h2, h3, h4⟩ => ⟨f, h2, h1, h3, h4.1, h4.2⟩
theorem dv_left {f : FuncId} {args : Array Value} {w w1 : World} {R : List Rng} {x : Dv × Int} {C : Nat} (hC : C < w1.heap.size) (c : Calls Try.prog f args w (DvPost w1 R x)) : Calls Try.prog f args w fun e w' => DvPost w1 R x e w' ∧ leftIn w' C = leftIn w1 C :=
  c.mono fun e w' h => ⟨h, by obtain ⟨_, _, _, _, _, _, _, _, hb⟩ := h; exact leftIn_below hb hC⟩
theorem rd_left {f : FuncId} {args : Array Value} {w : World} {v : Ending} {C : Nat} (hC : C < w.heap.size) (c : Calls Try.prog f args w fun e w' => e = v ∧ Below w.heap.size w w') : Calls Try.prog f args w fun e w' => e = v ∧ Below w.heap.size w w' ∧ leftIn w' C = leftIn w C :=
  c.mono fun e w' h => ⟨h.1, h.2, leftIn_below h.2 hC⟩
set_option maxHeartbeats 16000000 in
theorem plays_any (x : Option Addr) (len cap : Nat) (zs : List Int) (w : World) (hr : IsRow .u8 w x len cap zs) :
    Calls Try.prog 4 #[.slice x len cap] w fun e w' => e = .returned (.bool true) ∧ Below w.heap.size w w' := by
  have HR := Lib.hid hr
  clear hr
  obtain ⟨e1, o1⟩ := new_ok (n := 3) (by decide)
  obtain ⟨d0, hd0⟩ : ∃ d0 : Dv, (⟨List.replicate 3 blankPg, 0, [], false, []⟩ : Dv) = d0 := ⟨_, rfl⟩
  rw [hd0] at e1 o1
  have HE : Hid (newR 3 = (d0, 0)) := Lib.hid e1
  have HO := Lib.hid o1
  clear e1 o1 hd0
  obtain ⟨fs, hud⟩ := under_dv
  have HUD := Lib.hid hud
  obtain ⟨fs2, huf⟩ := under_flt
  have HUF := Lib.hid huf
  clear hud huf
  go_enter Try.func4, Try.ntmps4
  go_wp2_with fail
  refine (awake4 _).mono ?_
  rintro e w1 ⟨rfl, hb⟩
  have HS0 : Hid (Hp w [] w1) := (Hp.start w).calls hb
  clear hb
  go_wp2_with fail
  refine (new_hpl 400 (by omega) HS0.out HR.out).mono ?_
  rintro e w2 ⟨rfl, hs, hlf⟩
  have HS1 : Hid (Hp w [.cd w1.heap.size] w2) := hs
  clear hs HS0 HR hlf
  generalize w1.heap.size = C at *
  go_wp2_with fail
  refine (dv_as HE.out (new_dv 3 _)).mono ?_
  rintro e w3 ⟨p0, u0, f0, R0, rfl, hrd, hin, hnew, hb⟩
  obtain ⟨ap0, cp0, rfl, _⟩ := hrd.pages
  obtain ⟨au0, cu0, rfl, _⟩ := hrd.unread
  obtain ⟨af0, cf0, rfl, _⟩ := hrd.faults
  have HDv0 := Lib.hid hrd
  have HS2 : Hid (Hp w [.cd C, .rd R0] w3) := (HS1.out).addrd hb R0 hin (fun r hr => (hnew r hr).elim .inl (fun h => absurd h List.not_mem_nil))
  clear hb hin hnew hrd
  clear HS1
  go_wp2_with (first | ((with_reducible refine wpList_alloc_ob 27 (dvCells nilS dvNil nilS nilS) ?_ ?_); (exact alloc_dv); simp only [Act.put, List.setIfInBounds_toArray, List.set_cons_zero, List.set_cons_succ]) | ((with_reducible refine wpList_store_ob 27 (.tmp 4) (w3.heap.size) (dvCells (.slice ap0 d0.pages.length cp0) d0 (.slice au0 d0.unread.length cu0) (.slice af0 d0.faults.length cf0)) (dvCells nilS dvNil nilS nilS) 27 ?_ ?_ ?_ ?_ ?_ ?_ ?_); (exact rfl); (exact rfl); (exact ((HS2.out).put 27 (dvCells nilS dvNil nilS nilS)).get 2 rfl); (exact info_dv); (exact rfl); (exact (oneCell_dv _ _ _ _ _ _ _ _ _ _)); skip))
  refine (dv_as HE.out (rnew_any 3 _)).mono ?_
  rintro e w4 ⟨p1, u1, f1, R1, rfl, hrd, hin, hnew, hb⟩
  obtain ⟨ap1, cp1, rfl, _⟩ := hrd.pages
  obtain ⟨au1, cu1, rfl, _⟩ := hrd.unread
  obtain ⟨af1, cf1, rfl, _⟩ := hrd.faults
  have HDv1 := Lib.hid hrd
  have HS3 : Hid (Hp w [.cd C, .rd R0, .ob (w3.heap.size) 27 (dvCells (.slice ap0 d0.pages.length cp0) d0 (.slice au0 d0.unread.length cu0) (.slice af0 d0.faults.length cf0)), .rd R1] w4) := (((HS2.out).put 27 (dvCells nilS dvNil nilS nilS)).row 2 rfl (dvCells (.slice ap0 d0.pages.length cp0) d0 (.slice au0 d0.unread.length cu0) (.slice af0 d0.faults.length cf0))).addrd hb R1 hin (fun r hr => (hnew r hr).elim .inl (fun h => absurd h List.not_mem_nil))
  clear hb hin hnew hrd
  clear HS2
  generalize w3.heap.size = B1 at *
  go_wp2_with (first | ((with_reducible refine wpList_alloc_ob 27 (dvCells nilS dvNil nilS nilS) ?_ ?_); (exact alloc_dv); simp only [Act.put, List.setIfInBounds_toArray, List.set_cons_zero, List.set_cons_succ]) | ((with_reducible refine wpList_store_ob 27 (.tmp 6) (w4.heap.size) (dvCells (.slice ap1 d0.pages.length cp1) d0 (.slice au1 d0.unread.length cu1) (.slice af1 d0.faults.length cf1)) (dvCells nilS dvNil nilS nilS) 27 ?_ ?_ ?_ ?_ ?_ ?_ ?_); (exact rfl); (exact rfl); (exact ((HS3.out).put 27 (dvCells nilS dvNil nilS nilS)).get 4 rfl); (exact info_dv); (exact rfl); (exact (oneCell_dv _ _ _ _ _ _ _ _ _ _)); skip))
  have HS4 : Hid (Hp w [.cd C, .rd R0, .ob B1 27 (dvCells (.slice ap0 d0.pages.length cp0) d0 (.slice au0 d0.unread.length cu0) (.slice af0 d0.faults.length cf0)), .rd R1, .ob (w4.heap.size) 27 (dvCells (.slice ap1 d0.pages.length cp1) d0 (.slice au1 d0.unread.length cu1) (.slice af1 d0.faults.length cf1))] ((w4.alloc (.cells (dvCells nilS dvNil nilS nilS).toArray 27)).setRow (w4.heap.size) (dvCells (.slice ap1 d0.pages.length cp1) d0 (.slice au1 d0.unread.length cu1) (.slice af1 d0.faults.length cf1)).toArray)) := ((HS3.out).put 27 (dvCells nilS dvNil nilS nilS)).row 4 rfl (dvCells (.slice ap1 d0.pages.length cp1) d0 (.slice au1 d0.unread.length cu1) (.slice af1 d0.faults.length cf1))
  clear HS3
  generalize ((w4.alloc (.cells (dvCells nilS dvNil nilS nilS).toArray 27)).setRow (w4.heap.size) (dvCells (.slice ap1 d0.pages.length cp1) d0 (.slice au1 d0.unread.length cu1) (.slice af1 d0.faults.length cf1)).toArray) = w5 at *
  generalize w4.heap.size = B2 at *
  have HS5 : Hid (Hp w [.cd C, .ob B1 27 (dvCells (.slice ap0 d0.pages.length cp0) d0 (.slice au0 d0.unread.length cu0) (.slice af0 d0.faults.length cf0)), .ob B2 27 (dvCells (.slice ap1 d0.pages.length cp1) d0 (.slice au1 d0.unread.length cu1) (.slice af1 d0.faults.length cf1)), .rd R0, .rd R1] w5) := HS4.out.pull [0, 2, 4, 1, 3] rfl (pull_nd HS4.out.nd [0, 2, 4, 1, 3] rfl (by decide))
  clear HS4
  go_loopw [] (fun wr => ∃ (d : Dv) (pa ua fa pb ub fb : Value) (Ra Rb : List Rng), DvOk d ∧ DvRd pa ua fa d Ra ∧ DvRd pb ub fb d Rb ∧ Hp w [.cd C, .ob B1 27 (dvCells pa d ua fa), .ob B2 27 (dvCells pb d ub fb), .rd Ra, .rd Rb] wr) (fun wr => leftIn wr C)
  case atStart => exact ⟨d0, _, _, _, _, _, _, _, _, HO.out, HDv0.out, HDv1.out, HS5.out⟩
  case round =>
    clear HDv0 HDv1 HO HE HS5
    obtain ⟨d, pa, ua, fa, pb, ub, fb, Ra, Rb, hok, hda, hdb, hs⟩ := hrel
    obtain ⟨apa, cpa, rfl, _⟩ := hda.pages
    obtain ⟨aua, cua, rfl, _⟩ := hda.unread
    obtain ⟨afa, cfa, rfl, _⟩ := hda.faults
    obtain ⟨apb, cpb, rfl, _⟩ := hdb.pages
    obtain ⟨aub, cub, rfl, _⟩ := hdb.unread
    obtain ⟨afb, cfb, rfl, _⟩ := hdb.faults
    have HOk := Lib.hid hok
    have HDa := Lib.hid hda
    have HDb := Lib.hid hdb
    have HQ := Lib.hid hs
    obtain ⟨m0, hm0⟩ : ∃ m0, leftIn wr C = m0 := ⟨_, rfl⟩
    have HM0 := Lib.hid hm0
    clear hda hdb hs hok hm0
    go_wp2_with fail
    refine (left_any C _ (HQ.out.codes 0 rfl)).mono ?_
    rintro e w51 ⟨q, v, rfl, hv, rfl⟩
    have HS1 : Hid (Hp w [.cd C, .ob B1 27 (dvCells (.slice apa d.pages.length cpa) d (.slice aua d.unread.length cua) (.slice afa d.faults.length cfa)), .ob B2 27 (dvCells (.slice apb d.pages.length cpb) d (.slice aub d.unread.length cub) (.slice afb d.faults.length cfb)), .rd Ra, .rd Rb] (wr.drewN q)) := HQ.out.drewN q
    have HLe : Hid (leftIn (wr.drewN q) C = m0) := HM0.out
    have HV : Hid (0 < v → 0 < leftIn (wr.drewN q) C) := hv
    clear HQ hv
    generalize wr.drewN q = w52 at *
    by_cases hv0 : 0 < v
    · have HV2 := Lib.hid (HV.out hv0)
      clear HV
      go_wp2_with fail
      refine (left_small C 3 _ ((HS1.out).codes 0 rfl) (by omega) (by omega)).mono ?_
      rintro e w61 ⟨n, rfl, n0, n1, hb, hc, hlf⟩
      have HS61 : Hid (Hp w [.cd C, .ob B1 27 (dvCells (.slice apa d.pages.length cpa) d (.slice aua d.unread.length cua) (.slice afa d.faults.length cfa)), .ob B2 27 (dvCells (.slice apb d.pages.length cpb) d (.slice aub d.unread.length cub) (.slice afb d.faults.length cfb)), .rd Ra, .rd Rb] w61) := (HS1.out).draws 0 rfl hb hc
      clear hb hc
      clear HS1
      have HLn : Hid (leftIn w61 C < m0) := Lib.hid (by have := HV2.out; have := HLe.out; omega)
      clear hlf HV2 HLe hv0
      go_upto_if 41 with (fail)
      go_cut [] (fun wx => ∃ (d : Dv) (pa ua fa pb ub fb : Value) (Ra Rb : List Rng), DvOk d ∧ DvRd pa ua fa d Ra ∧ DvRd pb ub fb d Rb ∧ Hp w [.cd C, .ob B1 27 (dvCells pa d ua fa), .ob B2 27 (dvCells pb d ub fb), .rd Ra, .rd Rb] wx ∧ leftIn wx C < m0)
      case first =>
        by_cases hn : n = 0
        · subst hn
          clear n0 n1
          have c1 : w61.cell? ⟨B2, 1, none⟩ = some (.int .i64 d.writes) := (HS61.out).at 2 rfl 1 rfl
          go_wp2_with fail
          refine (fault_left C 3 d.writes _ ((HS61.out).codes 0 rfl) (by omega)).mono ?_
          rintro e w62 ⟨f, rfl, hgf, hb, hc, hlf⟩
          have HS62 : Hid (Hp w [.cd C, .ob B1 27 (dvCells (.slice apa d.pages.length cpa) d (.slice aua d.unread.length cua) (.slice afa d.faults.length cfa)), .ob B2 27 (dvCells (.slice apb d.pages.length cpb) d (.slice aub d.unread.length cub) (.slice afb d.faults.length cfb)), .rd Ra, .rd Rb] w62) := (HS61.out).draws 0 rfl hb hc
          clear hb hc
          clear HS61
          have HGf := Lib.hid hgf
          obtain ⟨X, cX, hX⟩ : ∃ X cX, injectR d f = (X, cX) := ⟨_, _, rfl⟩
          have HX := Lib.hid hX
          have HLa1 : Hid (leftIn w62 C < m0) := Lib.hid (by have := HLn.out; omega)
          clear hlf HLn
          clear hgf hX c1
          have HLa2 : Hid (leftIn (((w62.alloc (.cells (fltCells (fltNil)).toArray 29)).setRow (w62.heap.size) (fltCells (f)).toArray)) C < m0) := Lib.hid (by rw [leftIn_of ((setRow_other _ _ _ _ (((HS62.out).put 29 (fltCells (fltNil))).ne 0 5 rfl rfl (by decide) rfl rfl)).trans (((Below.refl _ _).alloc (Nat.le_refl _) _).block _ ((HS62.out).codes 0 rfl).lt))]; exact HLa1.out)
          clear HLa1
          go_wp2_with (first | ((with_reducible refine wpList_alloc_ob 29 (fltCells (fltNil)) ?_ ?_); (exact alloc_flt); simp only [Act.put, List.setIfInBounds_toArray, List.set_cons_zero, List.set_cons_succ]) | ((with_reducible refine wpList_store_ob 29 (.tmp 8) (w62.heap.size) (fltCells (f)) (fltCells (fltNil)) 29 ?_ ?_ ?_ ?_ ?_ ?_ ?_); (exact rfl); (exact rfl); (exact ((HS62.out).put 29 (fltCells (fltNil))).get 5 rfl); (exact info_flt); (exact rfl); (exact (oneCell_flt _)); skip) | ((with_reducible refine wpList_load_ob 27 (.tmp 4) B1 (dvCells (.slice apa d.pages.length cpa) d (.slice aua d.unread.length cua) (.slice afa d.faults.length cfa)) 27 HUD.out ?_ ?_ ?_ ?_ ?_); (exact rfl); (exact (((HS62.out).put 29 (fltCells (fltNil))).row 5 rfl (fltCells (f))).get 1 rfl); (exact rfl); (exact info_dv); simp only [Act.put, List.setIfInBounds_toArray, List.set_cons_zero, List.set_cons_succ]) | ((with_reducible refine wpList_load_ob 29 (.tmp 8) (w62.heap.size) (fltCells (f)) 29 HUF.out ?_ ?_ ?_ ?_ ?_); (exact rfl); (exact (((HS62.out).put 29 (fltCells (fltNil))).row 5 rfl (fltCells (f))).get 5 rfl); (exact rfl); (exact info_flt); simp only [Act.put, List.setIfInBounds_toArray, List.set_cons_zero, List.set_cons_succ]))
          refine (dv_left ((((HS62.out).put 29 (fltCells (fltNil))).row 5 rfl (fltCells (f))).codes 0 rfl).lt (dv_as HX.out (inject_any f _ HDa.out ((((HS62.out).put 29 (fltCells (fltNil))).row 5 rfl (fltCells (f))).reads 3 rfl) HOk.out.goodDv HGf.out HOk.out.pg HOk.out.fl))).mono ?_
          rintro e w63 ⟨⟨px, ux, fx, Rx, rfl, hrd, hin, hnew, hb⟩, hlf⟩
          obtain ⟨apx, cpx, rfl, _⟩ := hrd.pages
          obtain ⟨aux, cux, rfl, _⟩ := hrd.unread
          obtain ⟨afx, cfx, rfl, _⟩ := hrd.faults
          have HDvx := Lib.hid hrd
          have HS63 : Hid (Hp w [.cd C, .ob B1 27 (dvCells (.slice apa d.pages.length cpa) d (.slice aua d.unread.length cua) (.slice afa d.faults.length cfa)), .ob B2 27 (dvCells (.slice apb d.pages.length cpb) d (.slice aub d.unread.length cub) (.slice afb d.faults.length cfb)), .rd Ra, .rd Rb, .ob (w62.heap.size) 29 (fltCells (f)), .rd Rx] w63) := (((HS62.out).put 29 (fltCells (fltNil))).row 5 rfl (fltCells (f))).addrd hb Rx hin (fun r hr => (hnew r hr).elim .inl (fun h => .inr ⟨.rd Ra, List.mem_of_getElem? (i := 3) rfl, List.mem_map.2 ⟨r, h, rfl⟩⟩))
          clear hb hin hnew hrd
          clear HS62
          generalize w62.heap.size = B3 at *
          have HLa3 : Hid (leftIn w63 C < m0) := Lib.hid (by rw [hlf]; exact HLa2.out)
          clear hlf HLa2
          have HLa4 : Hid (leftIn (((w63.alloc (.cells (dvCells nilS dvNil nilS nilS).toArray 27)).setRow (w63.heap.size) (dvCells (.slice apx X.pages.length cpx) X (.slice aux X.unread.length cux) (.slice afx X.faults.length cfx)).toArray)) C < m0) := Lib.hid (by rw [leftIn_of ((setRow_other _ _ _ _ (((HS63.out).put 27 (dvCells nilS dvNil nilS nilS)).ne 0 7 rfl rfl (by decide) rfl rfl)).trans (((Below.refl _ _).alloc (Nat.le_refl _) _).block _ ((HS63.out).codes 0 rfl).lt))]; exact HLa3.out)
          clear HLa3
          go_wp2_with (first | ((with_reducible refine wpList_alloc_ob 27 (dvCells nilS dvNil nilS nilS) ?_ ?_); (exact alloc_dv); simp only [Act.put, List.setIfInBounds_toArray, List.set_cons_zero, List.set_cons_succ]) | ((with_reducible refine wpList_store_ob 27 (.tmp 9) (w63.heap.size) (dvCells (.slice apx X.pages.length cpx) X (.slice aux X.unread.length cux) (.slice afx X.faults.length cfx)) (dvCells nilS dvNil nilS nilS) 27 ?_ ?_ ?_ ?_ ?_ ?_ ?_); (exact rfl); (exact rfl); (exact ((HS63.out).put 27 (dvCells nilS dvNil nilS nilS)).get 7 rfl); (exact info_dv); (exact rfl); (exact (oneCell_dv _ _ _ _ _ _ _ _ _ _)); skip) | ((with_reducible refine wpList_load_ob 27 (.tmp 6) B2 (dvCells (.slice apb d.pages.length cpb) d (.slice aub d.unread.length cub) (.slice afb d.faults.length cfb)) 27 HUD.out ?_ ?_ ?_ ?_ ?_); (exact rfl); (exact (((HS63.out).put 27 (dvCells nilS dvNil nilS nilS)).row 7 rfl (dvCells (.slice apx X.pages.length cpx) X (.slice aux X.unread.length cux) (.slice afx X.faults.length cfx))).get 2 rfl); (exact rfl); (exact info_dv); simp only [Act.put, List.setIfInBounds_toArray, List.set_cons_zero, List.set_cons_succ]) | ((with_reducible refine wpList_load_ob 29 (.tmp 8) B3 (fltCells (f)) 29 HUF.out ?_ ?_ ?_ ?_ ?_); (exact rfl); (exact (((HS63.out).put 27 (dvCells nilS dvNil nilS nilS)).row 7 rfl (dvCells (.slice apx X.pages.length cpx) X (.slice aux X.unread.length cux) (.slice afx X.faults.length cfx))).get 5 rfl); (exact rfl); (exact info_flt); simp only [Act.put, List.setIfInBounds_toArray, List.set_cons_zero, List.set_cons_succ]))
          refine (dv_left ((((HS63.out).put 27 (dvCells nilS dvNil nilS nilS)).row 7 rfl (dvCells (.slice apx X.pages.length cpx) X (.slice aux X.unread.length cux) (.slice afx X.faults.length cfx))).codes 0 rfl).lt (dv_as HX.out (rinject_any f _ HDb.out ((((HS63.out).put 27 (dvCells nilS dvNil nilS nilS)).row 7 rfl (dvCells (.slice apx X.pages.length cpx) X (.slice aux X.unread.length cux) (.slice afx X.faults.length cfx))).reads 4 rfl) HOk.out.goodDv HGf.out HOk.out.pg HOk.out.fl))).mono ?_
          rintro e w64 ⟨⟨py, uy, fy, Ry, rfl, hrd, hin, hnew, hb⟩, hlf⟩
          obtain ⟨apy, cpy, rfl, _⟩ := hrd.pages
          obtain ⟨auy, cuy, rfl, _⟩ := hrd.unread
          obtain ⟨afy, cfy, rfl, _⟩ := hrd.faults
          have HDvy := Lib.hid hrd
          have HS64 : Hid (Hp w [.cd C, .ob B1 27 (dvCells (.slice apa d.pages.length cpa) d (.slice aua d.unread.length cua) (.slice afa d.faults.length cfa)), .ob B2 27 (dvCells (.slice apb d.pages.length cpb) d (.slice aub d.unread.length cub) (.slice afb d.faults.length cfb)), .rd Ra, .rd Rb, .ob B3 29 (fltCells (f)), .rd Rx, .ob (w63.heap.size) 27 (dvCells (.slice apx X.pages.length cpx) X (.slice aux X.unread.length cux) (.slice afx X.faults.length cfx)), .rd Ry] w64) := (((HS63.out).put 27 (dvCells nilS dvNil nilS nilS)).row 7 rfl (dvCells (.slice apx X.pages.length cpx) X (.slice aux X.unread.length cux) (.slice afx X.faults.length cfx))).addrd hb Ry hin (fun r hr => (hnew r hr).elim .inl (fun h => .inr ⟨.rd Rb, List.mem_of_getElem? (i := 4) rfl, List.mem_map.2 ⟨r, h, rfl⟩⟩))
          clear hb hin hnew hrd
          clear HS63
          generalize w63.heap.size = B4 at *
          have HLa5 : Hid (leftIn w64 C < m0) := Lib.hid (by rw [hlf]; exact HLa4.out)
          clear hlf HLa4
          go_upto_region 13 with (first | ((with_reducible refine wpList_alloc_ob 27 (dvCells nilS dvNil nilS nilS) ?_ ?_); (exact alloc_dv); simp only [Act.put, List.setIfInBounds_toArray, List.set_cons_zero, List.set_cons_succ]) | ((with_reducible refine wpList_store_ob 27 (.tmp 11) (w64.heap.size) (dvCells (.slice apy X.pages.length cpy) X (.slice auy X.unread.length cuy) (.slice afy X.faults.length cfy)) (dvCells nilS dvNil nilS nilS) 27 ?_ ?_ ?_ ?_ ?_ ?_ ?_); (exact rfl); (exact rfl); (exact ((HS64.out).put 27 (dvCells nilS dvNil nilS nilS)).get 9 rfl); (exact info_dv); (exact rfl); (exact (oneCell_dv _ _ _ _ _ _ _ _ _ _)); skip))
          have HLa6 : Hid (leftIn (((w64.alloc (.cells (dvCells nilS dvNil nilS nilS).toArray 27)).setRow (w64.heap.size) (dvCells (.slice apy X.pages.length cpy) X (.slice auy X.unread.length cuy) (.slice afy X.faults.length cfy)).toArray)) C < m0) := Lib.hid (by rw [leftIn_of ((setRow_other _ _ _ _ (((HS64.out).put 27 (dvCells nilS dvNil nilS nilS)).ne 0 9 rfl rfl (by decide) rfl rfl)).trans (((Below.refl _ _).alloc (Nat.le_refl _) _).block _ ((HS64.out).codes 0 rfl).lt))]; exact HLa5.out)
          clear HLa5
          have HS65 : Hid (Hp w [.cd C, .ob B1 27 (dvCells (.slice apa d.pages.length cpa) d (.slice aua d.unread.length cua) (.slice afa d.faults.length cfa)), .ob B2 27 (dvCells (.slice apb d.pages.length cpb) d (.slice aub d.unread.length cub) (.slice afb d.faults.length cfb)), .rd Ra, .rd Rb, .ob B3 29 (fltCells (f)), .rd Rx, .ob B4 27 (dvCells (.slice apx X.pages.length cpx) X (.slice aux X.unread.length cux) (.slice afx X.faults.length cfx)), .rd Ry, .ob (w64.heap.size) 27 (dvCells (.slice apy X.pages.length cpy) X (.slice auy X.unread.length cuy) (.slice afy X.faults.length cfy))] ((w64.alloc (.cells (dvCells nilS dvNil nilS nilS).toArray 27)).setRow (w64.heap.size) (dvCells (.slice apy X.pages.length cpy) X (.slice auy X.unread.length cuy) (.slice afy X.faults.length cfy)).toArray)) := ((HS64.out).put 27 (dvCells nilS dvNil nilS nilS)).row 9 rfl (dvCells (.slice apy X.pages.length cpy) X (.slice auy X.unread.length cuy) (.slice afy X.faults.length cfy))
          clear HS64
          generalize ((w64.alloc (.cells (dvCells nilS dvNil nilS nilS).toArray 27)).setRow (w64.heap.size) (dvCells (.slice apy X.pages.length cpy) X (.slice auy X.unread.length cuy) (.slice afy X.faults.length cfy)).toArray) = w65 at *
          generalize w64.heap.size = B5 at *
          have HS66 : Hid (Hp w [.cd C, .ob B1 27 (dvCells (.slice apa d.pages.length cpa) d (.slice aua d.unread.length cua) (.slice afa d.faults.length cfa)), .ob B2 27 (dvCells (.slice apb d.pages.length cpb) d (.slice aub d.unread.length cub) (.slice afb d.faults.length cfb)), .rd Ra, .rd Rb, .ob B4 27 (dvCells (.slice apx X.pages.length cpx) X (.slice aux X.unread.length cux) (.slice afx X.faults.length cfx)), .ob B5 27 (dvCells (.slice apy X.pages.length cpy) X (.slice auy X.unread.length cuy) (.slice afy X.faults.length cfy)), .rd Rx, .rd Ry] w65) := HS65.out.pull [0, 1, 2, 3, 4, 7, 9, 6, 8] rfl (pull_nd HS65.out.nd [0, 1, 2, 3, 4, 7, 9, 6, 8] rfl (by decide))
          clear HS65
          by_cases hc0 : cX = 0
          · have HOx : Hid (DvOk X) := Lib.hid (inject_keep HOk.out HGf.out HX.out hc0)
            subst hc0
            go_upto_region 14 with (fail)
            have HS67 : Hid (Hp w [.cd C, .ob B1 27 (dvCells (.slice apa d.pages.length cpa) d (.slice aua d.unread.length cua) (.slice afa d.faults.length cfa)), .ob B2 27 (dvCells (.slice apb d.pages.length cpb) d (.slice aub d.unread.length cub) (.slice afb d.faults.length cfb)), .rd Ra, .rd Rb, .ob B4 27 (dvCells (.slice apx X.pages.length cpx) X (.slice aux X.unread.length cux) (.slice afx X.faults.length cfx)), .ob B5 27 (dvCells (.slice apy X.pages.length cpy) X (.slice auy X.unread.length cuy) (.slice afy X.faults.length cfy)), .rd Rx, .rd Ry] w65) := HS66.out
            clear HS66
            refine wp_region_held_drew (S := fun w' => Hold w.heap.size [.ob B4 27 (dvCells (.slice apx X.pages.length cpx) X (.slice aux X.unread.length cux) (.slice afx X.faults.length cfx)), .ob B5 27 (dvCells (.slice apy X.pages.length cpy) X (.slice auy X.unread.length cuy) (.slice afy X.faults.length cfy))] w') (by kernel_rfl) ((HS67.out).drew.pick [5, 6] rfl) (fun hHeld => ?_)
            refine wpAnyH_take (i := 0) (oi := { dst := some 63, op := Op.load 27 (Operand.tmp 9), type := 27, pos := "law.go:113", after := #[], guard := none }) rfl (by kernel_rfl) (by kernel_rfl) (by kernel_rfl) (fun _ _ _ h => h) (yieldsIf_load_mid (by rfl) 27 (.tmp 9) rfl B4 0 rfl (dvCells (.slice apx X.pages.length cpx) X (.slice aux X.unread.length cux) (.slice afx X.faults.length cfx)) _ (fun _ h => h.whole 0 rfl) HUD.out rfl (info_dv)) hHeld ?_
            try simp only [Act.put, List.setIfInBounds_toArray, List.set_cons_zero, List.set_cons_succ]
            refine wpAnyH_take (i := 1) (oi := { dst := some 64, op := Op.load 27 (Operand.tmp 11), type := 27, pos := "law.go:113", after := #[{ on := 2, ground := Ground.gcOnly Departure.lateStores }], guard := none }) rfl (by kernel_rfl) (by kernel_rfl) (by kernel_rfl) (fun _ _ _ h => h) (yieldsIf_load_mid (by rfl) 27 (.tmp 11) rfl B5 0 rfl (dvCells (.slice apy X.pages.length cpy) X (.slice auy X.unread.length cuy) (.slice afy X.faults.length cfy)) _ (fun _ h => h.whole 1 rfl) HUD.out rfl (info_dv)) hHeld ?_
            try simp only [Act.put, List.setIfInBounds_toArray, List.set_cons_zero, List.set_cons_succ]
            refine wpAnyH_ready (rs := [2]) (by kernel_rfl) (by simp) ?_
            refine AllReadyH.cons (o := { dst := none, op := Op.store 27 (Operand.tmp 4) (Operand.tmp 63), type := 0, pos := "law.go:113", after := #[{ on := 0, ground := Ground.data }, { on := 0, ground := Ground.phase }, { on := 1, ground := Ground.textOnly Departure.lateStores }], guard := none }) rfl (fun K hK => ?_) (AllReadyH.nil)
            rw [if_pos (by rfl)]
            refine wp_store_ob 27 (.tmp 4) (.tmp 63) B1 (dvCells (.slice apx X.pages.length cpx) X (.slice aux X.unread.length cux) (.slice afx X.faults.length cfx)) (dvCells (.slice apa d.pages.length cpa) d (.slice aua d.unread.length cua) (.slice afa d.faults.length cfa)) 27 rfl rfl rfl rfl (((HS67.out).drew).get 1 rfl) (info_dv) (rfl) ((oneCell_dv _ _ _ _ _ _ _ _ _ _)) ?_
            have HS68 : Hid (Hp w [.cd C, .ob B1 27 (dvCells (.slice apx X.pages.length cpx) X (.slice aux X.unread.length cux) (.slice afx X.faults.length cfx)), .ob B2 27 (dvCells (.slice apb d.pages.length cpb) d (.slice aub d.unread.length cub) (.slice afb d.faults.length cfb)), .rd Ra, .rd Rb, .ob B4 27 (dvCells (.slice apx X.pages.length cpx) X (.slice aux X.unread.length cux) (.slice afx X.faults.length cfx)), .ob B5 27 (dvCells (.slice apy X.pages.length cpy) X (.slice auy X.unread.length cuy) (.slice afy X.faults.length cfy)), .rd Rx, .rd Ry] (w65.drew.setRow B1 (dvCells (.slice apx X.pages.length cpx) X (.slice aux X.unread.length cux) (.slice afx X.faults.length cfx)).toArray)) := ((HS67.out).drew).row 1 rfl (dvCells (.slice apx X.pages.length cpx) X (.slice aux X.unread.length cux) (.slice afx X.faults.length cfx))
            refine hK.out _ _ (HS68.out.pick [5, 6] rfl) (fun hHeld => ?_)
            clear hK K
            have HLa7 : Hid (leftIn (w65.drew.setRow B1 (dvCells (.slice apx X.pages.length cpx) X (.slice aux X.unread.length cux) (.slice afx X.faults.length cfx)).toArray) C < m0) := Lib.hid (by rw [leftIn_of (setRow_other _ _ _ _ (((HS67.out).drew).ne 0 1 rfl rfl (by decide) rfl rfl))]; exact HLa6.out)
            clear HLa6
            generalize (w65.drew.setRow B1 (dvCells (.slice apx X.pages.length cpx) X (.slice aux X.unread.length cux) (.slice afx X.faults.length cfx)).toArray) = w66 at *
            try simp only [Act.put, List.setIfInBounds_toArray, List.set_cons_zero, List.set_cons_succ]
            refine wpAnyH_ready (rs := [3]) (by kernel_rfl) (by simp) ?_
            refine AllReadyH.cons (o := { dst := none, op := Op.store 27 (Operand.tmp 6) (Operand.tmp 64), type := 0, pos := "law.go:113", after := #[{ on := 1, ground := Ground.data }, { on := 2, ground := Ground.chain }, { on := 0, ground := Ground.phase }, { on := 1, ground := Ground.phase }, { on := 2, ground := Ground.phase }], guard := none }) rfl (fun K hK => ?_) (AllReadyH.nil)
            rw [if_pos (by rfl)]
            refine wp_store_ob 27 (.tmp 6) (.tmp 64) B2 (dvCells (.slice apy X.pages.length cpy) X (.slice auy X.unread.length cuy) (.slice afy X.faults.length cfy)) (dvCells (.slice apb d.pages.length cpb) d (.slice aub d.unread.length cub) (.slice afb d.faults.length cfb)) 27 rfl rfl rfl rfl ((HS68.out).get 2 rfl) (info_dv) (rfl) ((oneCell_dv _ _ _ _ _ _ _ _ _ _)) ?_
            have HS69 : Hid (Hp w [.cd C, .ob B1 27 (dvCells (.slice apx X.pages.length cpx) X (.slice aux X.unread.length cux) (.slice afx X.faults.length cfx)), .ob B2 27 (dvCells (.slice apy X.pages.length cpy) X (.slice auy X.unread.length cuy) (.slice afy X.faults.length cfy)), .rd Ra, .rd Rb, .ob B4 27 (dvCells (.slice apx X.pages.length cpx) X (.slice aux X.unread.length cux) (.slice afx X.faults.length cfx)), .ob B5 27 (dvCells (.slice apy X.pages.length cpy) X (.slice auy X.unread.length cuy) (.slice afy X.faults.length cfy)), .rd Rx, .rd Ry] (w66.setRow B2 (dvCells (.slice apy X.pages.length cpy) X (.slice auy X.unread.length cuy) (.slice afy X.faults.length cfy)).toArray)) := (HS68.out).row 2 rfl (dvCells (.slice apy X.pages.length cpy) X (.slice auy X.unread.length cuy) (.slice afy X.faults.length cfy))
            refine hK.out _ _ (HS69.out.pick [5, 6] rfl) (fun hHeld => ?_)
            clear hK K
            have HLa8 : Hid (leftIn (w66.setRow B2 (dvCells (.slice apy X.pages.length cpy) X (.slice auy X.unread.length cuy) (.slice afy X.faults.length cfy)).toArray) C < m0) := Lib.hid (by rw [leftIn_of (setRow_other _ _ _ _ ((HS68.out).ne 0 2 rfl rfl (by decide) rfl rfl))]; exact HLa7.out)
            clear HLa7
            generalize (w66.setRow B2 (dvCells (.slice apy X.pages.length cpy) X (.slice auy X.unread.length cuy) (.slice afy X.faults.length cfy)).toArray) = w67 at *
            try simp only [Act.put, List.setIfInBounds_toArray, List.set_cons_zero, List.set_cons_succ]
            refine wpAnyH_done (by kernel_rfl) ?_ _
            clear hHeld
            go_wp2_with fail
            go_meet
            exact ⟨X, _, _, _, _, _, _, _, _, HOx.out, HDvx.out, HDvy.out, (HS69.out).pull [0, 1, 2, 7, 8] rfl (pull_nd (HS69.out).nd [0, 1, 2, 7, 8] rfl (by decide)), HLa8.out⟩
          · have hcb : (cX == 0) = false := by rw [beq_eq_false_iff_ne]; exact hc0
            clear hc0
            go_wp2_with fail
            go_meet
            exact ⟨d, _, _, _, _, _, _, _, _, HOk.out, HDa.out, HDb.out, (HS66.out).pull [0, 1, 2, 3, 4] rfl (pull_nd (HS66.out).nd [0, 1, 2, 3, 4] rfl (by decide)), HLa6.out⟩
        · have hnb : (n == 0) = false := by rw [beq_eq_false_iff_ne]; exact hn
          clear hn n0 n1
          go_wp2_with fail
          go_meet
          exact ⟨d, _, _, _, _, _, _, _, _, HOk.out, HDa.out, HDb.out, HS61.out, HLn.out⟩
      case rest =>
        obtain ⟨d, pa, ua, fa, pb, ub, fb, Ra, Rb, hok, hda, hdb, hs, hlf⟩ := hcut
        clear HOk HDa HDb HS61 HLn
        obtain ⟨apa, cpa, rfl, _⟩ := hda.pages
        obtain ⟨aua, cua, rfl, _⟩ := hda.unread
        obtain ⟨afa, cfa, rfl, _⟩ := hda.faults
        obtain ⟨apb, cpb, rfl, _⟩ := hdb.pages
        obtain ⟨aub, cub, rfl, _⟩ := hdb.unread
        obtain ⟨afb, cfb, rfl, _⟩ := hdb.faults
        have HOk := Lib.hid hok
        have HDa := Lib.hid hda
        have HDb := Lib.hid hdb
        have HQ := Lib.hid hs
        have HLc := Lib.hid hlf
        clear hda hdb hs hok hlf n0 n1
        generalize wc = w80 at *
        go_wp2_with fail
        refine (left_small C 3 _ ((HQ.out).codes 0 rfl) (by omega) (by omega)).mono ?_
        rintro e w81 ⟨pn, rfl, p0, p1, hb, hc, hlf⟩
        have HS81 : Hid (Hp w [.cd C, .ob B1 27 (dvCells (.slice apa d.pages.length cpa) d (.slice aua d.unread.length cua) (.slice afa d.faults.length cfa)), .ob B2 27 (dvCells (.slice apb d.pages.length cpb) d (.slice aub d.unread.length cub) (.slice afb d.faults.length cfb)), .rd Ra, .rd Rb] w81) := (HQ.out).draws 0 rfl hb hc
        clear hb hc
        clear HQ
        obtain ⟨p, rfl⟩ := Int.eq_ofNat_of_zero_le p0
        have HLa9 : Hid (leftIn w81 C < m0) := Lib.hid (by have := HLc.out; omega)
        clear hlf HLc
        clear p0 p1
        go_wp2_with fail
        refine (bytes_left C _ ((HS81.out).codes 0 rfl)).mono ?_
        rintro e w82 ⟨s, rfl, hs2, hb, hc, hlf⟩
        have HS82 : Hid (Hp w [.cd C, .ob B1 27 (dvCells (.slice apa d.pages.length cpa) d (.slice aua d.unread.length cua) (.slice afa d.faults.length cfa)), .ob B2 27 (dvCells (.slice apb d.pages.length cpb) d (.slice aub d.unread.length cub) (.slice afb d.faults.length cfb)), .rd Ra, .rd Rb] w82) := (HS81.out).draws 0 rfl hb hc
        clear hb hc
        clear HS81
        have HSz := Lib.hid hs2
        have HSm : Hid (s.size ≤ maxLen) := by show _ ≤ _; rw [hs2]; decide
        obtain ⟨X, cX, hX⟩ : ∃ X cX, writeR d p s = (X, cX) := ⟨_, _, rfl⟩
        have HX := Lib.hid hX
        have HLa10 : Hid (leftIn w82 C < m0) := Lib.hid (by have := HLa9.out; omega)
        clear hlf HLa9
        clear hs2 hX
        go_wp2_with (first | ((with_reducible refine wpList_load_ob 27 (.tmp 4) B1 (dvCells (.slice apa d.pages.length cpa) d (.slice aua d.unread.length cua) (.slice afa d.faults.length cfa)) 27 HUD.out ?_ ?_ ?_ ?_ ?_); (exact rfl); (exact (HS82.out).get 1 rfl); (exact rfl); (exact info_dv); simp only [Act.put, List.setIfInBounds_toArray, List.set_cons_zero, List.set_cons_succ]))
        refine (dv_left ((HS82.out).codes 0 rfl).lt (dv_as HX.out (write_any p s _ HDa.out ((HS82.out).reads 3 rfl) HOk.out.goodDv HSm.out HOk.out.pg HOk.out.fl))).mono ?_
        rintro e w83 ⟨⟨px, ux, fx, Rx, rfl, hrd, hin, hnew, hb⟩, hlf⟩
        obtain ⟨apx, cpx, rfl, _⟩ := hrd.pages
        obtain ⟨aux, cux, rfl, _⟩ := hrd.unread
        obtain ⟨afx, cfx, rfl, _⟩ := hrd.faults
        have HDvx := Lib.hid hrd
        have HS83 : Hid (Hp w [.cd C, .ob B1 27 (dvCells (.slice apa d.pages.length cpa) d (.slice aua d.unread.length cua) (.slice afa d.faults.length cfa)), .ob B2 27 (dvCells (.slice apb d.pages.length cpb) d (.slice aub d.unread.length cub) (.slice afb d.faults.length cfb)), .rd Ra, .rd Rb, .rd Rx] w83) := (HS82.out).addrd hb Rx hin (fun r hr => (hnew r hr).elim .inl (fun h => .inr ⟨.rd Ra, List.mem_of_getElem? (i := 3) rfl, List.mem_map.2 ⟨r, h, rfl⟩⟩))
        clear hb hin hnew hrd
        clear HS82
        have HLa11 : Hid (leftIn w83 C < m0) := Lib.hid (by rw [hlf]; exact HLa10.out)
        clear hlf HLa10
        have HLa12 : Hid (leftIn (((w83.alloc (.cells (dvCells nilS dvNil nilS nilS).toArray 27)).setRow (w83.heap.size) (dvCells (.slice apx X.pages.length cpx) X (.slice aux X.unread.length cux) (.slice afx X.faults.length cfx)).toArray)) C < m0) := Lib.hid (by rw [leftIn_of ((setRow_other _ _ _ _ (((HS83.out).put 27 (dvCells nilS dvNil nilS nilS)).ne 0 6 rfl rfl (by decide) rfl rfl)).trans (((Below.refl _ _).alloc (Nat.le_refl _) _).block _ ((HS83.out).codes 0 rfl).lt))]; exact HLa11.out)
        clear HLa11
        go_wp2_with (first | ((with_reducible refine wpList_alloc_ob 27 (dvCells nilS dvNil nilS nilS) ?_ ?_); (exact alloc_dv); simp only [Act.put, List.setIfInBounds_toArray, List.set_cons_zero, List.set_cons_succ]) | ((with_reducible refine wpList_store_ob 27 (.tmp 15) (w83.heap.size) (dvCells (.slice apx X.pages.length cpx) X (.slice aux X.unread.length cux) (.slice afx X.faults.length cfx)) (dvCells nilS dvNil nilS nilS) 27 ?_ ?_ ?_ ?_ ?_ ?_ ?_); (exact rfl); (exact rfl); (exact ((HS83.out).put 27 (dvCells nilS dvNil nilS nilS)).get 6 rfl); (exact info_dv); (exact rfl); (exact (oneCell_dv _ _ _ _ _ _ _ _ _ _)); skip) | ((with_reducible refine wpList_load_ob 27 (.tmp 6) B2 (dvCells (.slice apb d.pages.length cpb) d (.slice aub d.unread.length cub) (.slice afb d.faults.length cfb)) 27 HUD.out ?_ ?_ ?_ ?_ ?_); (exact rfl); (exact (((HS83.out).put 27 (dvCells nilS dvNil nilS nilS)).row 6 rfl (dvCells (.slice apx X.pages.length cpx) X (.slice aux X.unread.length cux) (.slice afx X.faults.length cfx))).get 2 rfl); (exact rfl); (exact info_dv); simp only [Act.put, List.setIfInBounds_toArray, List.set_cons_zero, List.set_cons_succ]))
        refine (dv_left ((((HS83.out).put 27 (dvCells nilS dvNil nilS nilS)).row 6 rfl (dvCells (.slice apx X.pages.length cpx) X (.slice aux X.unread.length cux) (.slice afx X.faults.length cfx))).codes 0 rfl).lt (dv_as HX.out (rwrite_any p s _ HDb.out ((((HS83.out).put 27 (dvCells nilS dvNil nilS nilS)).row 6 rfl (dvCells (.slice apx X.pages.length cpx) X (.slice aux X.unread.length cux) (.slice afx X.faults.length cfx))).reads 4 rfl) HOk.out.goodDv HSm.out HOk.out.pg HOk.out.fl))).mono ?_
        rintro e w84 ⟨⟨py, uy, fy, Ry, rfl, hrd, hin, hnew, hb⟩, hlf⟩
        obtain ⟨apy, cpy, rfl, _⟩ := hrd.pages
        obtain ⟨auy, cuy, rfl, _⟩ := hrd.unread
        obtain ⟨afy, cfy, rfl, _⟩ := hrd.faults
        have HDvy := Lib.hid hrd
        have HS84 : Hid (Hp w [.cd C, .ob B1 27 (dvCells (.slice apa d.pages.length cpa) d (.slice aua d.unread.length cua) (.slice afa d.faults.length cfa)), .ob B2 27 (dvCells (.slice apb d.pages.length cpb) d (.slice aub d.unread.length cub) (.slice afb d.faults.length cfb)), .rd Ra, .rd Rb, .rd Rx, .ob (w83.heap.size) 27 (dvCells (.slice apx X.pages.length cpx) X (.slice aux X.unread.length cux) (.slice afx X.faults.length cfx)), .rd Ry] w84) := (((HS83.out).put 27 (dvCells nilS dvNil nilS nilS)).row 6 rfl (dvCells (.slice apx X.pages.length cpx) X (.slice aux X.unread.length cux) (.slice afx X.faults.length cfx))).addrd hb Ry hin (fun r hr => (hnew r hr).elim .inl (fun h => .inr ⟨.rd Rb, List.mem_of_getElem? (i := 4) rfl, List.mem_map.2 ⟨r, h, rfl⟩⟩))
        clear hb hin hnew hrd
        clear HS83
        generalize w83.heap.size = B3 at *
        have HLa13 : Hid (leftIn w84 C < m0) := Lib.hid (by rw [hlf]; exact HLa12.out)
        clear hlf HLa12
        go_upto_region 20 with (first | ((with_reducible refine wpList_alloc_ob 27 (dvCells nilS dvNil nilS nilS) ?_ ?_); (exact alloc_dv); simp only [Act.put, List.setIfInBounds_toArray, List.set_cons_zero, List.set_cons_succ]) | ((with_reducible refine wpList_store_ob 27 (.tmp 17) (w84.heap.size) (dvCells (.slice apy X.pages.length cpy) X (.slice auy X.unread.length cuy) (.slice afy X.faults.length cfy)) (dvCells nilS dvNil nilS nilS) 27 ?_ ?_ ?_ ?_ ?_ ?_ ?_); (exact rfl); (exact rfl); (exact ((HS84.out).put 27 (dvCells nilS dvNil nilS nilS)).get 8 rfl); (exact info_dv); (exact rfl); (exact (oneCell_dv _ _ _ _ _ _ _ _ _ _)); skip))
        have HLa14 : Hid (leftIn (((w84.alloc (.cells (dvCells nilS dvNil nilS nilS).toArray 27)).setRow (w84.heap.size) (dvCells (.slice apy X.pages.length cpy) X (.slice auy X.unread.length cuy) (.slice afy X.faults.length cfy)).toArray)) C < m0) := Lib.hid (by rw [leftIn_of ((setRow_other _ _ _ _ (((HS84.out).put 27 (dvCells nilS dvNil nilS nilS)).ne 0 8 rfl rfl (by decide) rfl rfl)).trans (((Below.refl _ _).alloc (Nat.le_refl _) _).block _ ((HS84.out).codes 0 rfl).lt))]; exact HLa13.out)
        clear HLa13
        have HS85 : Hid (Hp w [.cd C, .ob B1 27 (dvCells (.slice apa d.pages.length cpa) d (.slice aua d.unread.length cua) (.slice afa d.faults.length cfa)), .ob B2 27 (dvCells (.slice apb d.pages.length cpb) d (.slice aub d.unread.length cub) (.slice afb d.faults.length cfb)), .rd Ra, .rd Rb, .rd Rx, .ob B3 27 (dvCells (.slice apx X.pages.length cpx) X (.slice aux X.unread.length cux) (.slice afx X.faults.length cfx)), .rd Ry, .ob (w84.heap.size) 27 (dvCells (.slice apy X.pages.length cpy) X (.slice auy X.unread.length cuy) (.slice afy X.faults.length cfy))] ((w84.alloc (.cells (dvCells nilS dvNil nilS nilS).toArray 27)).setRow (w84.heap.size) (dvCells (.slice apy X.pages.length cpy) X (.slice auy X.unread.length cuy) (.slice afy X.faults.length cfy)).toArray)) := ((HS84.out).put 27 (dvCells nilS dvNil nilS nilS)).row 8 rfl (dvCells (.slice apy X.pages.length cpy) X (.slice auy X.unread.length cuy) (.slice afy X.faults.length cfy))
        clear HS84
        generalize ((w84.alloc (.cells (dvCells nilS dvNil nilS nilS).toArray 27)).setRow (w84.heap.size) (dvCells (.slice apy X.pages.length cpy) X (.slice auy X.unread.length cuy) (.slice afy X.faults.length cfy)).toArray) = w85 at *
        generalize w84.heap.size = B4 at *
        have HS86 : Hid (Hp w [.cd C, .ob B1 27 (dvCells (.slice apa d.pages.length cpa) d (.slice aua d.unread.length cua) (.slice afa d.faults.length cfa)), .ob B2 27 (dvCells (.slice apb d.pages.length cpb) d (.slice aub d.unread.length cub) (.slice afb d.faults.length cfb)), .rd Ra, .rd Rb, .ob B3 27 (dvCells (.slice apx X.pages.length cpx) X (.slice aux X.unread.length cux) (.slice afx X.faults.length cfx)), .ob B4 27 (dvCells (.slice apy X.pages.length cpy) X (.slice auy X.unread.length cuy) (.slice afy X.faults.length cfy)), .rd Rx, .rd Ry] w85) := HS85.out.pull [0, 1, 2, 3, 4, 6, 8, 5, 7] rfl (pull_nd HS85.out.nd [0, 1, 2, 3, 4, 6, 8, 5, 7] rfl (by decide))
        clear HS85
        go_upto_if 87 with (fail)
        go_cut [] (fun wx => ∃ (d : Dv) (pa ua fa pb ub fb : Value) (Ra Rb : List Rng), DvOk d ∧ DvRd pa ua fa d Ra ∧ DvRd pb ub fb d Rb ∧ Hp w [.cd C, .ob B1 27 (dvCells pa d ua fa), .ob B2 27 (dvCells pb d ub fb), .rd Ra, .rd Rb] wx ∧ leftIn wx C < m0)
        case first =>
          by_cases hc0 : cX = 0
          · have HOx : Hid (DvOk X) := Lib.hid (write_keep HOk.out HSz.out HX.out hc0)
            subst hc0
            go_upto_region 21 with (fail)
            have HS87 : Hid (Hp w [.cd C, .ob B1 27 (dvCells (.slice apa d.pages.length cpa) d (.slice aua d.unread.length cua) (.slice afa d.faults.length cfa)), .ob B2 27 (dvCells (.slice apb d.pages.length cpb) d (.slice aub d.unread.length cub) (.slice afb d.faults.length cfb)), .rd Ra, .rd Rb, .ob B3 27 (dvCells (.slice apx X.pages.length cpx) X (.slice aux X.unread.length cux) (.slice afx X.faults.length cfx)), .ob B4 27 (dvCells (.slice apy X.pages.length cpy) X (.slice auy X.unread.length cuy) (.slice afy X.faults.length cfy)), .rd Rx, .rd Ry] w85) := HS86.out
            clear HS86
            refine wp_region_held_drew (S := fun w' => Hold w.heap.size [.ob B3 27 (dvCells (.slice apx X.pages.length cpx) X (.slice aux X.unread.length cux) (.slice afx X.faults.length cfx)), .ob B4 27 (dvCells (.slice apy X.pages.length cpy) X (.slice auy X.unread.length cuy) (.slice afy X.faults.length cfy))] w') (by kernel_rfl) ((HS87.out).drew.pick [5, 6] rfl) (fun hHeld => ?_)
            refine wpAnyH_take (i := 0) (oi := { dst := some 88, op := Op.load 27 (Operand.tmp 15), type := 27, pos := "law.go:123", after := #[], guard := none }) rfl (by kernel_rfl) (by kernel_rfl) (by kernel_rfl) (fun _ _ _ h => h) (yieldsIf_load_mid (by rfl) 27 (.tmp 15) rfl B3 0 rfl (dvCells (.slice apx X.pages.length cpx) X (.slice aux X.unread.length cux) (.slice afx X.faults.length cfx)) _ (fun _ h => h.whole 0 rfl) HUD.out rfl (info_dv)) hHeld ?_
            try simp only [Act.put, List.setIfInBounds_toArray, List.set_cons_zero, List.set_cons_succ]
            refine wpAnyH_take (i := 1) (oi := { dst := some 89, op := Op.load 27 (Operand.tmp 17), type := 27, pos := "law.go:123", after := #[{ on := 2, ground := Ground.gcOnly Departure.lateStores }], guard := none }) rfl (by kernel_rfl) (by kernel_rfl) (by kernel_rfl) (fun _ _ _ h => h) (yieldsIf_load_mid (by rfl) 27 (.tmp 17) rfl B4 0 rfl (dvCells (.slice apy X.pages.length cpy) X (.slice auy X.unread.length cuy) (.slice afy X.faults.length cfy)) _ (fun _ h => h.whole 1 rfl) HUD.out rfl (info_dv)) hHeld ?_
            try simp only [Act.put, List.setIfInBounds_toArray, List.set_cons_zero, List.set_cons_succ]
            refine wpAnyH_ready (rs := [2]) (by kernel_rfl) (by simp) ?_
            refine AllReadyH.cons (o := { dst := none, op := Op.store 27 (Operand.tmp 4) (Operand.tmp 88), type := 0, pos := "law.go:123", after := #[{ on := 0, ground := Ground.data }, { on := 0, ground := Ground.phase }, { on := 1, ground := Ground.textOnly Departure.lateStores }], guard := none }) rfl (fun K hK => ?_) (AllReadyH.nil)
            rw [if_pos (by rfl)]
            refine wp_store_ob 27 (.tmp 4) (.tmp 88) B1 (dvCells (.slice apx X.pages.length cpx) X (.slice aux X.unread.length cux) (.slice afx X.faults.length cfx)) (dvCells (.slice apa d.pages.length cpa) d (.slice aua d.unread.length cua) (.slice afa d.faults.length cfa)) 27 rfl rfl rfl rfl (((HS87.out).drew).get 1 rfl) (info_dv) (rfl) ((oneCell_dv _ _ _ _ _ _ _ _ _ _)) ?_
            have HS88 : Hid (Hp w [.cd C, .ob B1 27 (dvCells (.slice apx X.pages.length cpx) X (.slice aux X.unread.length cux) (.slice afx X.faults.length cfx)), .ob B2 27 (dvCells (.slice apb d.pages.length cpb) d (.slice aub d.unread.length cub) (.slice afb d.faults.length cfb)), .rd Ra, .rd Rb, .ob B3 27 (dvCells (.slice apx X.pages.length cpx) X (.slice aux X.unread.length cux) (.slice afx X.faults.length cfx)), .ob B4 27 (dvCells (.slice apy X.pages.length cpy) X (.slice auy X.unread.length cuy) (.slice afy X.faults.length cfy)), .rd Rx, .rd Ry] (w85.drew.setRow B1 (dvCells (.slice apx X.pages.length cpx) X (.slice aux X.unread.length cux) (.slice afx X.faults.length cfx)).toArray)) := ((HS87.out).drew).row 1 rfl (dvCells (.slice apx X.pages.length cpx) X (.slice aux X.unread.length cux) (.slice afx X.faults.length cfx))
            refine hK.out _ _ (HS88.out.pick [5, 6] rfl) (fun hHeld => ?_)
            clear hK K
            have HLa15 : Hid (leftIn (w85.drew.setRow B1 (dvCells (.slice apx X.pages.length cpx) X (.slice aux X.unread.length cux) (.slice afx X.faults.length cfx)).toArray) C < m0) := Lib.hid (by rw [leftIn_of (setRow_other _ _ _ _ (((HS87.out).drew).ne 0 1 rfl rfl (by decide) rfl rfl))]; exact HLa14.out)
            clear HLa14
            generalize (w85.drew.setRow B1 (dvCells (.slice apx X.pages.length cpx) X (.slice aux X.unread.length cux) (.slice afx X.faults.length cfx)).toArray) = w86 at *
            try simp only [Act.put, List.setIfInBounds_toArray, List.set_cons_zero, List.set_cons_succ]
            refine wpAnyH_ready (rs := [3]) (by kernel_rfl) (by simp) ?_
            refine AllReadyH.cons (o := { dst := none, op := Op.store 27 (Operand.tmp 6) (Operand.tmp 89), type := 0, pos := "law.go:123", after := #[{ on := 1, ground := Ground.data }, { on := 2, ground := Ground.chain }, { on := 0, ground := Ground.phase }, { on := 1, ground := Ground.phase }, { on := 2, ground := Ground.phase }], guard := none }) rfl (fun K hK => ?_) (AllReadyH.nil)
            rw [if_pos (by rfl)]
            refine wp_store_ob 27 (.tmp 6) (.tmp 89) B2 (dvCells (.slice apy X.pages.length cpy) X (.slice auy X.unread.length cuy) (.slice afy X.faults.length cfy)) (dvCells (.slice apb d.pages.length cpb) d (.slice aub d.unread.length cub) (.slice afb d.faults.length cfb)) 27 rfl rfl rfl rfl ((HS88.out).get 2 rfl) (info_dv) (rfl) ((oneCell_dv _ _ _ _ _ _ _ _ _ _)) ?_
            have HS89 : Hid (Hp w [.cd C, .ob B1 27 (dvCells (.slice apx X.pages.length cpx) X (.slice aux X.unread.length cux) (.slice afx X.faults.length cfx)), .ob B2 27 (dvCells (.slice apy X.pages.length cpy) X (.slice auy X.unread.length cuy) (.slice afy X.faults.length cfy)), .rd Ra, .rd Rb, .ob B3 27 (dvCells (.slice apx X.pages.length cpx) X (.slice aux X.unread.length cux) (.slice afx X.faults.length cfx)), .ob B4 27 (dvCells (.slice apy X.pages.length cpy) X (.slice auy X.unread.length cuy) (.slice afy X.faults.length cfy)), .rd Rx, .rd Ry] (w86.setRow B2 (dvCells (.slice apy X.pages.length cpy) X (.slice auy X.unread.length cuy) (.slice afy X.faults.length cfy)).toArray)) := (HS88.out).row 2 rfl (dvCells (.slice apy X.pages.length cpy) X (.slice auy X.unread.length cuy) (.slice afy X.faults.length cfy))
            refine hK.out _ _ (HS89.out.pick [5, 6] rfl) (fun hHeld => ?_)
            clear hK K
            have HLa16 : Hid (leftIn (w86.setRow B2 (dvCells (.slice apy X.pages.length cpy) X (.slice auy X.unread.length cuy) (.slice afy X.faults.length cfy)).toArray) C < m0) := Lib.hid (by rw [leftIn_of (setRow_other _ _ _ _ ((HS88.out).ne 0 2 rfl rfl (by decide) rfl rfl))]; exact HLa15.out)
            clear HLa15
            generalize (w86.setRow B2 (dvCells (.slice apy X.pages.length cpy) X (.slice auy X.unread.length cuy) (.slice afy X.faults.length cfy)).toArray) = w87 at *
            try simp only [Act.put, List.setIfInBounds_toArray, List.set_cons_zero, List.set_cons_succ]
            refine wpAnyH_done (by kernel_rfl) ?_ _
            clear hHeld
            go_wp2_with fail
            go_meet
            exact ⟨X, _, _, _, _, _, _, _, _, HOx.out, HDvx.out, HDvy.out, (HS89.out).pull [0, 1, 2, 7, 8] rfl (pull_nd (HS89.out).nd [0, 1, 2, 7, 8] rfl (by decide)), HLa16.out⟩
          · have hcb : (cX == 0) = false := by rw [beq_eq_false_iff_ne]; exact hc0
            clear hc0
            go_wp2_with fail
            go_meet
            exact ⟨d, _, _, _, _, _, _, _, _, HOk.out, HDa.out, HDb.out, (HS86.out).pull [0, 1, 2, 3, 4] rfl (pull_nd (HS86.out).nd [0, 1, 2, 3, 4] rfl (by decide)), HLa14.out⟩
        case rest =>
          obtain ⟨d2, pa, ua, fa, pb, ub, fb, Ra2, Rb2, hok, hda, hdb, hs, hlf⟩ := hcut
          clear HOk HDa HDb HDvx HDvy HS86 HLa14
          obtain ⟨apc, cpc, rfl, _⟩ := hda.pages
          obtain ⟨auc, cuc, rfl, _⟩ := hda.unread
          obtain ⟨afc, cfc, rfl, _⟩ := hda.faults
          obtain ⟨ape, cpe, rfl, _⟩ := hdb.pages
          obtain ⟨aue, cue, rfl, _⟩ := hdb.unread
          obtain ⟨afe, cfe, rfl, _⟩ := hdb.faults
          have HOk := Lib.hid hok
          have HDa := Lib.hid hda
          have HDb := Lib.hid hdb
          have HQ2 := Lib.hid hs
          have HLc := Lib.hid hlf
          clear hda hdb hs hok hlf
          generalize wc = w110 at *
          go_wp2_with fail
          go_loopw [19] (fun sx wx => ∃ x : Nat, x ≤ 3 ∧ sx = .int .i64 x ∧ Hp w [.cd C, .ob B1 27 (dvCells (.slice apc d2.pages.length cpc) d2 (.slice auc d2.unread.length cuc) (.slice afc d2.faults.length cfc)), .ob B2 27 (dvCells (.slice ape d2.pages.length cpe) d2 (.slice aue d2.unread.length cue) (.slice afe d2.faults.length cfe)), .rd Ra2, .rd Rb2] wx ∧ leftIn wx C < m0) (fun sx _ => 3 - (intOf sx).toNat)
          case atStart => exact ⟨0, by decide, rfl, HQ2.out, HLc.out⟩
          case round =>
            obtain ⟨x, hx3, rfl, hs, hlf⟩ := hrel
            clear HQ2 HLc
            have HQ := Lib.hid hs
            have HLd := Lib.hid hlf
            clear hs hlf
            by_cases hxl : x < 3
            · have hx0 : (0 : Int) ≤ (x : Int) := by omega
              have hxi : (x : Int) < 3 := by omega
              have HX3 := Lib.hid hxl
              obtain ⟨sx, gx, hsx⟩ : ∃ sx gx, readR d2 x = (sx, gx) := ⟨_, _, rfl⟩
              have HSx := Lib.hid hsx
              clear hsx hxl hx3
              go_wp2_with (first | ((with_reducible refine wpList_load_ob 27 (.tmp 4) B1 (dvCells (.slice apc d2.pages.length cpc) d2 (.slice auc d2.unread.length cuc) (.slice afc d2.faults.length cfc)) 27 HUD.out ?_ ?_ ?_ ?_ ?_); (exact rfl); (exact (HQ.out).get 1 rfl); (exact rfl); (exact info_dv); simp only [Act.put, List.setIfInBounds_toArray, List.set_cons_zero, List.set_cons_succ]))
              refine (rd_left ((HQ.out).codes 0 rfl).lt (HSx.out ▸ read_any x _ HDa.out ((HQ.out).reads 3 rfl) HOk.out.goodDv)).mono ?_
              rintro e w121 ⟨rfl, hb, hlf⟩
              have HS121 : Hid (Hp w [.cd C, .ob B1 27 (dvCells (.slice apc d2.pages.length cpc) d2 (.slice auc d2.unread.length cuc) (.slice afc d2.faults.length cfc)), .ob B2 27 (dvCells (.slice ape d2.pages.length cpe) d2 (.slice aue d2.unread.length cue) (.slice afe d2.faults.length cfe)), .rd Ra2, .rd Rb2] w121) := (HQ.out).calls hb
              clear hb
              clear HQ
              have HLa17 : Hid (leftIn w121 C < m0) := Lib.hid (by rw [hlf]; exact HLd.out)
              clear hlf HLd
              go_wp2_with (first | ((with_reducible refine wpList_load_ob 27 (.tmp 6) B2 (dvCells (.slice ape d2.pages.length cpe) d2 (.slice aue d2.unread.length cue) (.slice afe d2.faults.length cfe)) 27 HUD.out ?_ ?_ ?_ ?_ ?_); (exact rfl); (exact (HS121.out).get 2 rfl); (exact rfl); (exact info_dv); simp only [Act.put, List.setIfInBounds_toArray, List.set_cons_zero, List.set_cons_succ]))
              refine (rd_left ((HS121.out).codes 0 rfl).lt (HSx.out ▸ rread_any x _ HDb.out ((HS121.out).reads 4 rfl) HOk.out.goodDv)).mono ?_
              rintro e w122 ⟨rfl, hb, hlf⟩
              have HS122 : Hid (Hp w [.cd C, .ob B1 27 (dvCells (.slice apc d2.pages.length cpc) d2 (.slice auc d2.unread.length cuc) (.slice afc d2.faults.length cfc)), .ob B2 27 (dvCells (.slice ape d2.pages.length cpe) d2 (.slice aue d2.unread.length cue) (.slice afe d2.faults.length cfe)), .rd Ra2, .rd Rb2] w122) := (HS121.out).calls hb
              clear hb
              clear HS121
              have HLa18 : Hid (leftIn w122 C < m0) := Lib.hid (by rw [hlf]; exact HLa17.out)
              clear hlf HLa17
              go_wp2_with fail
              go_roundw
              case rel => exact ⟨x + 1, by have := HX3.out; omega, by go_num, HS122.out, HLa18.out⟩
              case measure => simp [intOf]; have := HX3.out; omega
            · have hxi : ¬ (x : Int) < 3 := by omega
              clear hxl hx3
              go_wp2_with fail
              go_roundw
              case rel => exact ⟨d2, _, _, _, _, _, _, _, _, HOk.out, HDa.out, HDb.out, HQ.out⟩
              case measure => rw [HM0.out]; exact HLd.out
    · have hv1 : ¬ 0 < v := hv0
      clear hv0 HV HLe
      go_wp2_with fail
      go_ret
      exact ⟨rfl, HS1.out.old⟩
end Go.Proofs.Ythcjkbhkidijoaa
