/- texts of a claim, one after the other: the law DeviceExact: for every input the call returns true, a slice that came in, opened: its elements are values of a kind, and its cells read, a device that came in by value, opened -/
import Derived.Test.YthcjkbhkidijoaaOm3
import Derived.Test.YthcjkbhkidijoaaOm6
import Derived.Deep.CutBlock
import Derived.Test.YthcjkbhkidijoaaOm1
import Derived.Deep.Slices
import Derived.ChangeArms
/- the law DeviceExact: for every input the call returns true -/
namespace Go.Proofs.Ythcjkbhkidijoaa
open Go.RowKit
set_option maxRecDepth 20000
set_option linter.unusedSimpArgs false
set_option linter.unusedVariables false

set_option maxHeartbeats 32000000 in
theorem exact_dv (x : Option Addr) (len cap : Nat) (zs : List Int) (p u f : Value) (dr : Dv) (R0 : List Rng) (pages cut : Int) (fx : Flt) (w : World) (hr : IsRow .u8 w x len cap zs) (hd : DvRd p u f dr R0) (hR : RdIn w R0) (hps : ∀ s ∈ dr.pages, s.size ≤ maxLen) (hfs : ∀ y ∈ dr.faults, GoodFlt y) (hfx : GoodFlt fx) :
    Calls Try.prog 3 #[.slice x len cap, .agg (dvCells p dr u f).toArray, .int .i64 pages, .int .i64 cut, .agg (fltCells fx).toArray] w fun e w' => e = .returned (.bool true) ∧ Below w.heap.size w w' := by
  obtain ⟨fs, hud⟩ := under_dv
  have HUD := Lib.hid hud
  obtain ⟨fs2, huf⟩ := under_flt
  have HUF := Lib.hid huf
  clear hud huf
  have HUX : Hid (Try.prog.underlying 25 = some (.slice 29)) := Try.underlying25
  have HUDS : Hid (Try.prog.underlying 40 = some (.slice 27)) := Try.underlying40
  have HUI : Hid (Try.prog.underlying 24 = some (.slice 3)) := Try.underlying24
  have HR := Lib.hid hr
  have HDr := Lib.hid hd
  have HGood := Lib.hid (And.intro hps (And.intro hfs hfx))
  obtain ⟨pa, pc, rfl, _⟩ := hd.pages
  obtain ⟨ua, uc, rfl, _⟩ := hd.unread
  obtain ⟨fa, fc, rfl, _⟩ := hd.faults
  obtain ⟨q, hq⟩ : ∃ q, smallB dr.pages.length dr.unread.length dr.faults.length = q := ⟨_, rfl⟩
  have HSm : Hid (∀ W, Calls Try.prog 10 #[.agg (dvCells (.slice pa dr.pages.length pc) dr (.slice ua dr.unread.length uc) (.slice fa dr.faults.length fc)).toArray] W fun e w' => e = .returned (.bool q) ∧ Below W.heap.size W w') := fun W => hq ▸ small_any dr.pages.length dr.unread.length dr.faults.length dr.writes dr.dead pa ua fa pc uc fc W
  have HQ := Lib.hid hq
  have h1 := ((Hp.startrd w R0 hR).put 27 (dvCells (.slice pa dr.pages.length pc) dr (.slice ua dr.unread.length uc) (.slice fa dr.faults.length fc))).put 29 (fltCells fx)
  simp only [World.size_alloc, List.nil_append, List.cons_append] at h1
  have HS0 : Hid (Hp w [.rd R0, .ob w.heap.size 27 (dvCells (.slice pa dr.pages.length pc) dr (.slice ua dr.unread.length uc) (.slice fa dr.faults.length fc)), .ob (w.heap.size + 1) 29 (fltCells fx)] ((w.alloc (.cells (dvCells (.slice pa dr.pages.length pc) dr (.slice ua dr.unread.length uc) (.slice fa dr.faults.length fc)).toArray 27)).alloc (.cells (fltCells fx).toArray 29))) := h1
  clear h1 hr hd hR hps hfs hfx hq
  go_enter Try.func3, Try.ntmps3
  go_wp2_with fail
  refine (awake4 _).mono ?_
  rintro e w3 ⟨rfl, hb⟩
  have HS2 : Hid (Hp w [.rd R0, .ob (w.heap.size) 27 (dvCells (.slice pa dr.pages.length pc) dr (.slice ua dr.unread.length uc) (.slice fa dr.faults.length fc)), .ob ((w.heap.size + 1)) 29 (fltCells (fx))] w3) := (HS0.out).calls hb
  clear hb
  clear HS0
  generalize (w.heap.size + 1) = B1 at *
  go_wp2_with (first | ((with_reducible refine wpList_load_ob_w 27 (.tmp 6) (w.heap.size) (dvCells (.slice pa dr.pages.length pc) dr (.slice ua dr.unread.length uc) (.slice fa dr.faults.length fc)) 27 HUD.out ?_ ?_ ?_ ?_ ?_ ?_); (exact rfl); (exact rfl); (exact (HS2.out).get 1 rfl); (exact rfl); (exact info_dv); simp only [Act.put, List.setIfInBounds_toArray, List.set_cons_zero, List.set_cons_succ]))
  refine (HSm.out _).mono ?_
  rintro e w4 ⟨rfl, hb⟩
  have HS3 : Hid (Hp w [.rd R0, .ob (w.heap.size) 27 (dvCells (.slice pa dr.pages.length pc) dr (.slice ua dr.unread.length uc) (.slice fa dr.faults.length fc)), .ob B1 29 (fltCells (fx))] w4) := (HS2.out).calls hb
  clear hb
  clear HS2
  cases q
  case false =>
    go_wp2_with (first | ((with_reducible refine wpList_load_ob 27 (.tmp 6) (w.heap.size) (dvCells (.slice pa dr.pages.length pc) dr (.slice ua dr.unread.length uc) (.slice fa dr.faults.length fc)) 27 HUD.out ?_ ?_ ?_ ?_ ?_); (exact rfl); (exact (HS3.out).get 1 rfl); (exact rfl); (exact info_dv); simp only [Act.put, List.setIfInBounds_toArray, List.set_cons_zero, List.set_cons_succ]))
    refine (HSm.out _).mono ?_
    rintro e w5 ⟨rfl, hb⟩
    have HS4 : Hid (Hp w [.rd R0, .ob (w.heap.size) 27 (dvCells (.slice pa dr.pages.length pc) dr (.slice ua dr.unread.length uc) (.slice fa dr.faults.length fc)), .ob B1 29 (fltCells (fx))] w5) := (HS3.out).calls hb
    clear hb
    clear HS3
    go_wp2_with fail
    go_ret
    exact ⟨rfl, (HS4.out).old⟩
  case true =>
    have HB : Hid (dr.pages.length ≤ 70 ∧ dr.unread.length ≤ 70 ∧ dr.faults.length ≤ 70) := Lib.hid (by have := HQ.out; unfold smallB at this; simp at this; omega)
    have HGr : Hid (DtGood R0 ⟨.slice pa dr.pages.length pc, .slice ua dr.unread.length uc, .slice fa dr.faults.length fc, dr⟩) := Lib.hid ⟨HDr.out, ⟨⟨HGood.out.2.1, HGood.out.1, by have := HB.out; show dr.unread.length ≤ 1000; omega⟩, by have := HB.out; show dr.pages.length ≤ 1000; omega, by have := HB.out; show dr.faults.length ≤ 1000; omega⟩, by have := HB.out; show dr.pages.length ≤ 200; omega⟩
    clear HQ HSm
    go_wp2_with fail
    refine (new_hp 300 (by omega) HS3.out HR.out).mono ?_
    rintro e w20 ⟨rfl, hs⟩
    have HS20 : Hid (Hp w [.rd R0, .ob (w.heap.size) 27 (dvCells (.slice pa dr.pages.length pc) dr (.slice ua dr.unread.length uc) (.slice fa dr.faults.length fc)), .ob B1 29 (fltCells (fx)), .cd w4.heap.size] w20) := hs
    clear hs HS3 HR
    generalize w4.heap.size = C at *
    go_wp2_with fail
    refine (device_any C _ ((HS20.out).codes 3 rfl)).mono ?_
    rintro e w22 ⟨d1, p1, u1, f1, R1, rfl, hok, hrd, hin, hnew, hb, hc⟩
    obtain ⟨ap1, cp1, rfl, _⟩ := hrd.pages
    obtain ⟨au1, cu1, rfl, _⟩ := hrd.unread
    obtain ⟨af1, cf1, rfl, _⟩ := hrd.faults
    have HDv1 := Lib.hid hrd
    have HS22 : Hid (Hp w [.rd R0, .ob (w.heap.size) 27 (dvCells (.slice pa dr.pages.length pc) dr (.slice ua dr.unread.length uc) (.slice fa dr.faults.length fc)), .ob B1 29 (fltCells (fx)), .cd C, .rd R1] w22) := (HS20.out).drawsrd 3 rfl hb hc R1 hin hnew
    clear hb hc hin hnew hrd
    clear HS20
    have HO1 := Lib.hid hok
    clear hok
    go_wp2_with (first | ((with_reducible refine wpList_alloc_ob 27 (dvCells nilS dvNil nilS nilS) ?_ ?_); (exact alloc_dv); simp only [Act.put, List.setIfInBounds_toArray, List.set_cons_zero, List.set_cons_succ]) | ((with_reducible refine wpList_store_ob 27 (.tmp 12) (w22.heap.size) (dvCells (.slice ap1 d1.pages.length cp1) d1 (.slice au1 d1.unread.length cu1) (.slice af1 d1.faults.length cf1)) (dvCells nilS dvNil nilS nilS) 27 ?_ ?_ ?_ ?_ ?_ ?_ ?_); (exact rfl); (exact rfl); (exact ((HS22.out).put 27 (dvCells nilS dvNil nilS nilS)).get 5 rfl); (exact info_dv); (exact rfl); (exact (oneCell_dv _ _ _ _ _ _ _ _ _ _)); skip))
    have HS23 : Hid (Hp w [.rd R0, .ob (w.heap.size) 27 (dvCells (.slice pa dr.pages.length pc) dr (.slice ua dr.unread.length uc) (.slice fa dr.faults.length fc)), .ob B1 29 (fltCells (fx)), .cd C, .rd R1, .ob (w22.heap.size) 27 (dvCells (.slice ap1 d1.pages.length cp1) d1 (.slice au1 d1.unread.length cu1) (.slice af1 d1.faults.length cf1))] ((w22.alloc (.cells (dvCells nilS dvNil nilS nilS).toArray 27)).setRow (w22.heap.size) (dvCells (.slice ap1 d1.pages.length cp1) d1 (.slice au1 d1.unread.length cu1) (.slice af1 d1.faults.length cf1)).toArray)) := ((HS22.out).put 27 (dvCells nilS dvNil nilS nilS)).row 5 rfl (dvCells (.slice ap1 d1.pages.length cp1) d1 (.slice au1 d1.unread.length cu1) (.slice af1 d1.faults.length cf1))
    clear HS22
    generalize ((w22.alloc (.cells (dvCells nilS dvNil nilS nilS).toArray 27)).setRow (w22.heap.size) (dvCells (.slice ap1 d1.pages.length cp1) d1 (.slice au1 d1.unread.length cu1) (.slice af1 d1.faults.length cf1)).toArray) = w23 at *
    generalize w22.heap.size = B2 at *
    obtain ⟨A, cA, hA⟩ : ∃ A c, newR pages = (A, c) := ⟨_, _, rfl⟩
    have HGA : Hid (GB A) := Lib.hid (by have := newR_gb pages; rw [hA] at this; exact this)
    have HA := Lib.hid hA
    have hcA : (cA != cA) = false := by simp
    clear hA
    go_wp2_with fail
    refine (dv_as HA.out (new_dv pages _)).mono ?_
    rintro e w24 ⟨pa, ua, fa, Ra, rfl, hrd, hin, hnew, hb⟩
    obtain ⟨apa, cpa, rfl, _⟩ := hrd.pages
    obtain ⟨aua, cua, rfl, _⟩ := hrd.unread
    obtain ⟨afa, cfa, rfl, _⟩ := hrd.faults
    have HDva := Lib.hid hrd
    have HS24 : Hid (Hp w [.rd R0, .ob (w.heap.size) 27 (dvCells (.slice pa dr.pages.length pc) dr (.slice ua dr.unread.length uc) (.slice fa dr.faults.length fc)), .ob B1 29 (fltCells (fx)), .cd C, .rd R1, .ob B2 27 (dvCells (.slice ap1 d1.pages.length cp1) d1 (.slice au1 d1.unread.length cu1) (.slice af1 d1.faults.length cf1)), .rd Ra] w24) := (HS23.out).addrd hb Ra hin (fun r hr => (hnew r hr).elim .inl (fun h => absurd h List.not_mem_nil))
    clear hb hin hnew hrd
    clear HS23
    go_wp2_with (first | ((with_reducible refine wpList_alloc_ob 27 (dvCells nilS dvNil nilS nilS) ?_ ?_); (exact alloc_dv); simp only [Act.put, List.setIfInBounds_toArray, List.set_cons_zero, List.set_cons_succ]) | ((with_reducible refine wpList_store_ob 27 (.tmp 13) (w24.heap.size) (dvCells (.slice apa A.pages.length cpa) A (.slice aua A.unread.length cua) (.slice afa A.faults.length cfa)) (dvCells nilS dvNil nilS nilS) 27 ?_ ?_ ?_ ?_ ?_ ?_ ?_); (exact rfl); (exact rfl); (exact ((HS24.out).put 27 (dvCells nilS dvNil nilS nilS)).get 7 rfl); (exact info_dv); (exact rfl); (exact (oneCell_dv _ _ _ _ _ _ _ _ _ _)); skip))
    refine (dv_as HA.out (rnew_any pages _)).mono ?_
    rintro e w25 ⟨pb, ub, fb, Rb, rfl, hrd, hin, hnew, hb⟩
    obtain ⟨apb, cpb, rfl, _⟩ := hrd.pages
    obtain ⟨aub, cub, rfl, _⟩ := hrd.unread
    obtain ⟨afb, cfb, rfl, _⟩ := hrd.faults
    have HDvb := Lib.hid hrd
    have HS25 : Hid (Hp w [.rd R0, .ob (w.heap.size) 27 (dvCells (.slice pa dr.pages.length pc) dr (.slice ua dr.unread.length uc) (.slice fa dr.faults.length fc)), .ob B1 29 (fltCells (fx)), .cd C, .rd R1, .ob B2 27 (dvCells (.slice ap1 d1.pages.length cp1) d1 (.slice au1 d1.unread.length cu1) (.slice af1 d1.faults.length cf1)), .rd Ra, .ob (w24.heap.size) 27 (dvCells (.slice apa A.pages.length cpa) A (.slice aua A.unread.length cua) (.slice afa A.faults.length cfa)), .rd Rb] w25) := (((HS24.out).put 27 (dvCells nilS dvNil nilS nilS)).row 7 rfl (dvCells (.slice apa A.pages.length cpa) A (.slice aua A.unread.length cua) (.slice afa A.faults.length cfa))).addrd hb Rb hin (fun r hr => (hnew r hr).elim .inl (fun h => absurd h List.not_mem_nil))
    clear hb hin hnew hrd
    clear HS24
    generalize w24.heap.size = B3 at *
    go_wp2_with (first | ((with_reducible refine wpList_alloc_ob 27 (dvCells nilS dvNil nilS nilS) ?_ ?_); (exact alloc_dv); simp only [Act.put, List.setIfInBounds_toArray, List.set_cons_zero, List.set_cons_succ]) | ((with_reducible refine wpList_store_ob 27 (.tmp 15) (w25.heap.size) (dvCells (.slice apb A.pages.length cpb) A (.slice aub A.unread.length cub) (.slice afb A.faults.length cfb)) (dvCells nilS dvNil nilS nilS) 27 ?_ ?_ ?_ ?_ ?_ ?_ ?_); (exact rfl); (exact rfl); (exact ((HS25.out).put 27 (dvCells nilS dvNil nilS nilS)).get 9 rfl); (exact info_dv); (exact rfl); (exact (oneCell_dv _ _ _ _ _ _ _ _ _ _)); skip) | ((with_reducible refine wpList_load_ob_w 27 (.tmp 13) B3 (dvCells (.slice apa A.pages.length cpa) A (.slice aua A.unread.length cua) (.slice afa A.faults.length cfa)) 27 HUD.out ?_ ?_ ?_ ?_ ?_ ?_); (exact rfl); (exact rfl); (exact (((HS25.out).put 27 (dvCells nilS dvNil nilS nilS)).row 9 rfl (dvCells (.slice apb A.pages.length cpb) A (.slice aub A.unread.length cub) (.slice afb A.faults.length cfb))).get 7 rfl); (exact rfl); (exact info_dv); simp only [Act.put, List.setIfInBounds_toArray, List.set_cons_zero, List.set_cons_succ]) | ((with_reducible refine wpList_load_ob_w 27 (.tmp 15) (w25.heap.size) (dvCells (.slice apb A.pages.length cpb) A (.slice aub A.unread.length cub) (.slice afb A.faults.length cfb)) 27 HUD.out ?_ ?_ ?_ ?_ ?_ ?_); (exact rfl); (exact rfl); (exact (((HS25.out).put 27 (dvCells nilS dvNil nilS nilS)).row 9 rfl (dvCells (.slice apb A.pages.length cpb) A (.slice aub A.unread.length cub) (.slice afb A.faults.length cfb))).get 9 rfl); (exact rfl); (exact info_dv); simp only [Act.put, List.setIfInBounds_toArray, List.set_cons_zero, List.set_cons_succ]))
    refine (same_dv _ HDva.out ((((HS25.out).put 27 (dvCells nilS dvNil nilS nilS)).row 9 rfl (dvCells (.slice apb A.pages.length cpb) A (.slice aub A.unread.length cub) (.slice afb A.faults.length cfb))).reads 6 rfl) HDvb.out ((((HS25.out).put 27 (dvCells nilS dvNil nilS nilS)).row 9 rfl (dvCells (.slice apb A.pages.length cpb) A (.slice aub A.unread.length cub) (.slice afb A.faults.length cfb))).reads 8 rfl) HGA.out.good HGA.out.pg HGA.out.fl).mono ?_
    rintro e w26 ⟨rfl, hb⟩
    have HS26 : Hid (Hp w [.rd R0, .ob (w.heap.size) 27 (dvCells (.slice pa dr.pages.length pc) dr (.slice ua dr.unread.length uc) (.slice fa dr.faults.length fc)), .ob B1 29 (fltCells (fx)), .cd C, .rd R1, .ob B2 27 (dvCells (.slice ap1 d1.pages.length cp1) d1 (.slice au1 d1.unread.length cu1) (.slice af1 d1.faults.length cf1)), .rd Ra, .ob B3 27 (dvCells (.slice apa A.pages.length cpa) A (.slice aua A.unread.length cua) (.slice afa A.faults.length cfa)), .rd Rb, .ob (w25.heap.size) 27 (dvCells (.slice apb A.pages.length cpb) A (.slice aub A.unread.length cub) (.slice afb A.faults.length cfb))] w26) := (((HS25.out).put 27 (dvCells nilS dvNil nilS nilS)).row 9 rfl (dvCells (.slice apb A.pages.length cpb) A (.slice aub A.unread.length cub) (.slice afb A.faults.length cfb))).calls hb
    clear hb
    clear HS25
    generalize w25.heap.size = B4 at *
    go_upto_region 9 with (fail)
    have HS27 : Hid (Hp w [.rd R0, .ob (w.heap.size) 27 (dvCells (.slice pa dr.pages.length pc) dr (.slice ua dr.unread.length uc) (.slice fa dr.faults.length fc)), .ob B1 29 (fltCells (fx)), .cd C, .rd R1, .ob B2 27 (dvCells (.slice ap1 d1.pages.length cp1) d1 (.slice au1 d1.unread.length cu1) (.slice af1 d1.faults.length cf1)), .rd Ra, .ob B3 27 (dvCells (.slice apa A.pages.length cpa) A (.slice aua A.unread.length cua) (.slice afa A.faults.length cfa)), .rd Rb, .ob B4 27 (dvCells (.slice apb A.pages.length cpb) A (.slice aub A.unread.length cub) (.slice afb A.faults.length cfb))] w26) := HS26.out
    clear HS26
    have HS28 : Hid (Hp w [.cd C, .ob (w.heap.size) 27 (dvCells (.slice pa dr.pages.length pc) dr (.slice ua dr.unread.length uc) (.slice fa dr.faults.length fc)), .ob B1 29 (fltCells (fx)), .ob B2 27 (dvCells (.slice ap1 d1.pages.length cp1) d1 (.slice au1 d1.unread.length cu1) (.slice af1 d1.faults.length cf1)), .rd R0, .rd R1] w26) := HS27.out.pull [3, 1, 2, 5, 0, 4] rfl (pull_nd HS27.out.nd [3, 1, 2, 5, 0, 4] rfl (by decide))
    clear HS27
    clear HDva HDvb HGA HA hcA
    refine wp_region_held_drew (S := fun w' => Hold w.heap.size [.ob (w.heap.size) 27 (dvCells (.slice pa dr.pages.length pc) dr (.slice ua dr.unread.length uc) (.slice fa dr.faults.length fc)), .ob B2 27 (dvCells (.slice ap1 d1.pages.length cp1) d1 (.slice au1 d1.unread.length cu1) (.slice af1 d1.faults.length cf1))] w') (by kernel_rfl) ((HS28.out).drew.pick [1, 3] rfl) (fun hHeld => ?_)
    refine wpAnyH_take (i := 0) (oi := { dst := some 66, op := Op.load 27 (Operand.tmp 6), type := 27, pos := "law.go:61", after := #[], guard := none }) rfl (by kernel_rfl) (by kernel_rfl) (by kernel_rfl) (fun _ _ _ h => h) (yieldsIf_load_mid (by rfl) 27 (.tmp 6) rfl (w.heap.size) 0 rfl (dvCells (.slice pa dr.pages.length pc) dr (.slice ua dr.unread.length uc) (.slice fa dr.faults.length fc)) _ (fun _ h => h.whole 0 rfl) HUD.out rfl (info_dv)) hHeld ?_
    try simp only [Act.put, List.setIfInBounds_toArray, List.set_cons_zero, List.set_cons_succ]
    refine wpAnyH_take (i := 1) (oi := { dst := some 67, op := Op.load 27 (Operand.tmp 12), type := 27, pos := "law.go:61", after := #[], guard := none }) rfl (by kernel_rfl) (by kernel_rfl) (by kernel_rfl) (fun _ _ _ h => h) (yieldsIf_load_mid (by rfl) 27 (.tmp 12) rfl B2 0 rfl (dvCells (.slice ap1 d1.pages.length cp1) d1 (.slice au1 d1.unread.length cu1) (.slice af1 d1.faults.length cf1)) _ (fun _ h => h.whole 1 rfl) HUD.out rfl (info_dv)) hHeld ?_
    try simp only [Act.put, List.setIfInBounds_toArray, List.set_cons_zero, List.set_cons_succ]
    refine wpAnyH_take (i := 2) (oi := { dst := some 68, op := Op.move (Operand.tmp 11), type := 32, pos := "law.go:61", after := #[], guard := none }) (v := ?q3v) rfl (by kernel_rfl) (by kernel_rfl) (by kernel_rfl) (fun _ _ _ h => h) (Or.inl ⟨by rfl, ?q3h⟩) hHeld ?q3r
    case q3h => (intro wq hSw; clear hSw; go_simp; try with_reducible rfl)
    try simp only [Act.put, List.setIfInBounds_toArray, List.set_cons_zero, List.set_cons_succ]
    refine wpAnyH_take (i := 3) (oi := { dst := some 69, op := Op.load 27 (Operand.tmp 12), type := 27, pos := "law.go:61", after := #[], guard := none }) rfl (by kernel_rfl) (by kernel_rfl) (by kernel_rfl) (fun _ _ _ h => h) (yieldsIf_load_mid (by rfl) 27 (.tmp 12) rfl B2 0 rfl (dvCells (.slice ap1 d1.pages.length cp1) d1 (.slice au1 d1.unread.length cu1) (.slice af1 d1.faults.length cf1)) _ (fun _ h => h.whole 1 rfl) HUD.out rfl (info_dv)) hHeld ?_
    try simp only [Act.put, List.setIfInBounds_toArray, List.set_cons_zero, List.set_cons_succ]
    refine wpAnyH_take (i := 7) (oi := { dst := some 73, op := Op.move (Operand.const (Value.int IntKind.i64 0)), type := 3, pos := "law.go:61", after := #[], guard := none }) (v := ?q5v) rfl (by kernel_rfl) (by kernel_rfl) (by kernel_rfl) (fun _ _ _ h => h) (Or.inl ⟨by rfl, ?q5h⟩) hHeld ?q5r
    case q5h => (intro wq hSw; clear hSw; go_simp; try with_reducible rfl)
    try simp only [Act.put, List.setIfInBounds_toArray, List.set_cons_zero, List.set_cons_succ]
    refine wpAnyH_ready (rs := [4]) (by kernel_rfl) (by simp) ?_
    refine AllReadyH.cons (o := { dst := some 70, op := Op.call { callee := Callee.value (Operand.func 16), args := #[Operand.tmp 68, Operand.tmp 69], argTypes := #[32, 27] }, type := 27, pos := "law.go:61", after := #[{ on := 2, ground := Ground.data }, { on := 3, ground := Ground.data }], guard := none }) rfl (fun K hK => ?_) (AllReadyH.nil)
    go_simp
    go_wp2_with (go_at_call 16; refine (odd_any C _ (((HS28.out).drew).codes 0 rfl) HDv1.out (((HS28.out).drew).reads 5 rfl) HO1.out.goodDv (by have := HO1.out.some; omega) (by have := asc_few HO1.out.asc HO1.out.unr; have := HO1.out.some; omega) (by have := HO1.out.few; omega)).mono ?_; rintro e w27 ⟨d2, p2, u2, f2, R2, rfl, hgd, hl1, hl2, hrd, hin, hnew, hb, hc⟩)
    obtain ⟨ap2, cp2, rfl, _⟩ := hrd.pages
    obtain ⟨au2, cu2, rfl, _⟩ := hrd.unread
    obtain ⟨af2, cf2, rfl, _⟩ := hrd.faults
    have HDv2 := Lib.hid hrd
    have HS29 : Hid (Hp w [.cd C, .ob (w.heap.size) 27 (dvCells (.slice pa dr.pages.length pc) dr (.slice ua dr.unread.length uc) (.slice fa dr.faults.length fc)), .ob B1 29 (fltCells (fx)), .ob B2 27 (dvCells (.slice ap1 d1.pages.length cp1) d1 (.slice au1 d1.unread.length cu1) (.slice af1 d1.faults.length cf1)), .rd R0, .rd R1, .rd R2] w27) := ((HS28.out).drew).drawsrd 0 rfl hb hc R2 hin hnew
    refine hK.out _ _ (HS29.out.pick [1, 3] rfl) (fun hHeld => ?_)
    clear hK K hb hc hin hnew hrd
    have HG2 : Hid (GB d2 ∧ d2.pages.length ≤ 200) := Lib.hid ⟨⟨hgd, by omega, by omega⟩, by omega⟩
    clear hgd hl1 hl2
    try simp only [Act.put, List.setIfInBounds_toArray, List.set_cons_zero, List.set_cons_succ]
    refine wpAnyH_ready (rs := [5]) (by kernel_rfl) (by simp) ?_
    refine AllReadyH.cons (o := { dst := some 71, op := Op.buildSlice 40 3 #[(0, Operand.tmp 66), (1, Operand.tmp 67), (2, Operand.tmp 70)], type := 40, pos := "law.go:61", after := #[{ on := 0, ground := Ground.data }, { on := 1, ground := Ground.data }, { on := 4, ground := Ground.data }], guard := none }) rfl (fun K hK => ?_) (AllReadyH.nil)
    rw [if_pos (by rfl)]
    refine wp_build_obs rfl elem_dv5 HUDS.out [dvCells (.slice pa dr.pages.length pc) dr (.slice ua dr.unread.length uc) (.slice fa dr.faults.length fc), dvCells (.slice ap1 d1.pages.length cp1) d1 (.slice au1 d1.unread.length cu1) (.slice af1 d1.faults.length cf1), dvCells (.slice ap2 d2.pages.length cp2) d2 (.slice au2 d2.unread.length cu2) (.slice af2 d2.faults.length cf2)] (List.forall_mem_cons.2 ⟨rfl, (List.forall_mem_cons.2 ⟨rfl, (List.forall_mem_cons.2 ⟨rfl, (fun _ h => absurd h List.not_mem_nil)⟩)⟩)⟩) (Nat.succ_pos _) (by simp only [List.length_cons, List.length_nil]; omega) rfl (by simp only [List.map_toArray, List.map_cons, List.map_nil, List.zipIdx_cons, List.zipIdx_nil]; exact rfl) ?_
    have HS30 : Hid (Hp w [.cd C, .ob (w.heap.size) 27 (dvCells (.slice pa dr.pages.length pc) dr (.slice ua dr.unread.length uc) (.slice fa dr.faults.length fc)), .ob B1 29 (fltCells (fx)), .ob B2 27 (dvCells (.slice ap1 d1.pages.length cp1) d1 (.slice au1 d1.unread.length cu1) (.slice af1 d1.faults.length cf1)), .rd R0, .rd R1, .rd R2, .ob (w27.heap.size) 27 (([dvCells (.slice pa dr.pages.length pc) dr (.slice ua dr.unread.length uc) (.slice fa dr.faults.length fc), dvCells (.slice ap1 d1.pages.length cp1) d1 (.slice au1 d1.unread.length cu1) (.slice af1 d1.faults.length cf1), dvCells (.slice ap2 d2.pages.length cp2) d2 (.slice au2 d2.unread.length cu2) (.slice af2 d2.faults.length cf2)] : List (List Value)).flatMap id)] (w27.alloc (.cells (([dvCells (.slice pa dr.pages.length pc) dr (.slice ua dr.unread.length uc) (.slice fa dr.faults.length fc), dvCells (.slice ap1 d1.pages.length cp1) d1 (.slice au1 d1.unread.length cu1) (.slice af1 d1.faults.length cf1), dvCells (.slice ap2 d2.pages.length cp2) d2 (.slice au2 d2.unread.length cu2) (.slice af2 d2.faults.length cf2)] : List (List Value)).flatMap id).toArray 27))) := (HS29.out).put 27 (([dvCells (.slice pa dr.pages.length pc) dr (.slice ua dr.unread.length uc) (.slice fa dr.faults.length fc), dvCells (.slice ap1 d1.pages.length cp1) d1 (.slice au1 d1.unread.length cu1) (.slice af1 d1.faults.length cf1), dvCells (.slice ap2 d2.pages.length cp2) d2 (.slice au2 d2.unread.length cu2) (.slice af2 d2.faults.length cf2)] : List (List Value)).flatMap id)
    refine hK.out _ _ (HS30.out.pick [1, 3] rfl) (fun hHeld => ?_)
    clear hK K
    generalize (w27.alloc (.cells (([dvCells (.slice pa dr.pages.length pc) dr (.slice ua dr.unread.length uc) (.slice fa dr.faults.length fc), dvCells (.slice ap1 d1.pages.length cp1) d1 (.slice au1 d1.unread.length cu1) (.slice af1 d1.faults.length cf1), dvCells (.slice ap2 d2.pages.length cp2) d2 (.slice au2 d2.unread.length cu2) (.slice af2 d2.faults.length cf2)] : List (List Value)).flatMap id).toArray 27)) = w28 at *
    generalize w27.heap.size = B5 at *
    try simp only [Act.put, List.setIfInBounds_toArray, List.set_cons_zero, List.set_cons_succ]
    refine wpAnyH_take (i := 6) (oi := { dst := some 72, op := Op.call { callee := Callee.builtin Builtin.len, args := #[Operand.tmp 71], argTypes := #[40] }, type := 3, pos := "law.go:61", after := #[{ on := 5, ground := Ground.data }], guard := none }) (v := ?q6v) rfl (by kernel_rfl) (by kernel_rfl) (by kernel_rfl) (fun _ _ _ h => h) (Or.inl ⟨by rfl, ?q6h⟩) hHeld ?q6r
    case q6h => (intro wq hSw; clear hSw; go_simp; try with_reducible rfl)
    try simp only [Act.put, List.setIfInBounds_toArray, List.set_cons_zero, List.set_cons_succ]
    refine wpAnyH_done (by kernel_rfl) ?_ _
    clear hHeld
    have HUg : Hid (∀ t ∈ ([⟨.slice pa dr.pages.length pc, .slice ua dr.unread.length uc, .slice fa dr.faults.length fc, dr⟩, ⟨.slice ap1 d1.pages.length cp1, .slice au1 d1.unread.length cu1, .slice af1 d1.faults.length cf1, d1⟩, ⟨.slice ap2 d2.pages.length cp2, .slice au2 d2.unread.length cu2, .slice af2 d2.faults.length cf2, d2⟩] : List Dt), DtGood (R0 ++ (R1 ++ R2)) t) := by
      intro t ht
      simp only [List.mem_cons, List.not_mem_nil, or_false] at ht
      rcases ht with rfl | rfl | rfl
      · exact HGr.out.mono (fun r h => List.mem_append_left _ h)
      · exact ⟨HDv1.out.mono (fun r h => List.mem_append_right _ (List.mem_append_left _ h)), HO1.out.gb, by have := HO1.out.some; show d1.pages.length ≤ 200; omega⟩
      · exact ⟨HDv2.out.mono (fun r h => List.mem_append_right _ (List.mem_append_right _ h)), HG2.out.1, HG2.out.2⟩
    have HLu : Hid (([⟨.slice pa dr.pages.length pc, .slice ua dr.unread.length uc, .slice fa dr.faults.length fc, dr⟩, ⟨.slice ap1 d1.pages.length cp1, .slice au1 d1.unread.length cu1, .slice af1 d1.faults.length cf1, d1⟩, ⟨.slice ap2 d2.pages.length cp2, .slice au2 d2.unread.length cu2, .slice af2 d2.faults.length cf2, d2⟩] : List Dt).length = 3) := rfl
    have HSd : Hid (Hp w [.cd C, .ob (w.heap.size) 27 (dvCells (.slice pa dr.pages.length pc) dr (.slice ua dr.unread.length uc) (.slice fa dr.faults.length fc)), .ob B1 29 (fltCells (fx)), .ob B2 27 (dvCells (.slice ap1 d1.pages.length cp1) d1 (.slice au1 d1.unread.length cu1) (.slice af1 d1.faults.length cf1)), .rd R0, .rd R1, .rd R2, .ob B5 27 ((([⟨.slice pa dr.pages.length pc, .slice ua dr.unread.length uc, .slice fa dr.faults.length fc, dr⟩, ⟨.slice ap1 d1.pages.length cp1, .slice au1 d1.unread.length cu1, .slice af1 d1.faults.length cf1, d1⟩, ⟨.slice ap2 d2.pages.length cp2, .slice au2 d2.unread.length cu2, .slice af2 d2.faults.length cf2, d2⟩] : List Dt).map dtCells).flatMap id), .rd (R0 ++ (R1 ++ R2))] w28) := (HS30.out).rdall 4 5 6 rfl rfl rfl
    clear HS30
    have HS31 : Hid (Hp w [.cd C, .ob B1 29 (fltCells (fx)), .ob B5 27 ((([⟨.slice pa dr.pages.length pc, .slice ua dr.unread.length uc, .slice fa dr.faults.length fc, dr⟩, ⟨.slice ap1 d1.pages.length cp1, .slice au1 d1.unread.length cu1, .slice af1 d1.faults.length cf1, d1⟩, ⟨.slice ap2 d2.pages.length cp2, .slice au2 d2.unread.length cu2, .slice af2 d2.faults.length cf2, d2⟩] : List Dt).map dtCells).flatMap id), .rd (R0 ++ (R1 ++ R2))] w28) := HSd.out.pull [0, 2, 7, 8] rfl (pull_nd HSd.out.nd [0, 2, 7, 8] rfl (by decide))
    clear HSd
    generalize ([⟨.slice pa dr.pages.length pc, .slice ua dr.unread.length uc, .slice fa dr.faults.length fc, dr⟩, ⟨.slice ap1 d1.pages.length cp1, .slice au1 d1.unread.length cu1, .slice af1 d1.faults.length cf1, d1⟩, ⟨.slice ap2 d2.pages.length cp2, .slice au2 d2.unread.length cu2, .slice af2 d2.faults.length cf2, d2⟩] : List Dt) = us at *
    generalize (R0 ++ (R1 ++ R2)) = RR at *
    clear HDv1 HDv2 HG2 HO1 HGr HDr HB
    go_wp2_with fail
    go_loopw [73] (fun i wr => ∃ j : Nat, j ≤ 3 ∧ i = .int .i64 j ∧ Hp w [.cd C, .ob B1 29 (fltCells (fx)), .ob B5 27 ((us.map dtCells).flatMap id), .rd RR] wr) (fun i _ => 3 - (intOf i).toNat)
    case atStart => exact ⟨0, by omega, rfl, HS31.out⟩
    case round =>
      obtain ⟨j, hj, rfl, hs⟩ := hrel
      clear HS31
      by_cases hlt : j < 3
      · have HS30 := Lib.hid hs
        clear hs
        have hjl : j < us.length := by rw [HLu.out]; exact hlt
        obtain ⟨t, ht⟩ : ∃ t, us[j] = t := ⟨_, rfl⟩
        have hg := HUg.out t (by rw [← ht]; exact List.getElem_mem hjl)
        have hu1 : (us.map dtCells)[j]? = some (dtCells t) := by rw [List.getElem?_map, List.getElem?_eq_getElem hjl, ht]; rfl
        obtain ⟨pt, ut, ft, dx⟩ := t
        obtain ⟨apx, cpx, hpx, _⟩ := hg.rd.pages
        obtain ⟨aux, cux, hux, _⟩ := hg.rd.unread
        obtain ⟨afx, cfx, hfx, _⟩ := hg.rd.faults
        simp only at hpx hux hfx
        subst hpx hux hfx
        have HDx : Hid (DvRd (.slice apx dx.pages.length cpx) (.slice aux dx.unread.length cux) (.slice afx dx.faults.length cfx) dx RR) := Lib.hid hg.rd
        have HGx : Hid (GB dx) := Lib.hid hg.gb
        have HPx : Hid (dx.pages.length ≤ 200) := Lib.hid hg.sm
        have HU1 : Hid ((us.map dtCells)[j]? = some (dvCells (.slice apx dx.pages.length cpx) dx (.slice aux dx.unread.length cux) (.slice afx dx.faults.length cfx))) := Lib.hid hu1
        have hj3 : (j : Int) < 3 := by omega
        have HJ3 := Lib.hid hlt
        clear hg hu1 ht hjl hlt hj
        go_wp2_with (first | ((with_reducible refine wpList_load_at 27 (.tmp 75) B5 ((j * 5)) (dvCells (.slice apx dx.pages.length cpx) dx (.slice aux dx.unread.length cux) (.slice afx dx.faults.length cfx)) HUD.out ?_ ?_ ?_ ?_ ?_); (exact rfl); (exact (HS30.out).mid 2 rfl (j * 5) (dvCells (.slice apx dx.pages.length cpx) dx (.slice aux dx.unread.length cux) (.slice afx dx.faults.length cfx)) (flat_mid (us.map dtCells) dt_len j _ HU1.out)); (exact rfl); (exact info_dv); simp only [Act.put, List.setIfInBounds_toArray, List.set_cons_zero, List.set_cons_succ]) | ((with_reducible refine wpList_alloc_ob 27 (dvCells nilS dvNil nilS nilS) ?_ ?_); (exact alloc_dv); simp only [Act.put, List.setIfInBounds_toArray, List.set_cons_zero, List.set_cons_succ]) | ((with_reducible refine wpList_store_ob 27 (.tmp 18) (wr.heap.size) (dvCells (.slice apx dx.pages.length cpx) dx (.slice aux dx.unread.length cux) (.slice afx dx.faults.length cfx)) (dvCells nilS dvNil nilS nilS) 27 ?_ ?_ ?_ ?_ ?_ ?_ ?_); (exact rfl); (exact rfl); (exact ((HS30.out).put 27 (dvCells nilS dvNil nilS nilS)).get 4 rfl); (exact info_dv); (exact rfl); (exact (oneCell_dv _ _ _ _ _ _ _ _ _ _)); skip))
        refine (next_any C 6 _ ((((HS30.out).put 27 (dvCells nilS dvNil nilS nilS)).row 4 rfl (dvCells (.slice apx dx.pages.length cpx) dx (.slice aux dx.unread.length cux) (.slice afx dx.faults.length cfx))).codes 0 rfl) (by omega)).mono ?_
        rintro e w32 ⟨pv, rfl, pv0, pv1, hb, hc⟩
        have HS32 : Hid (Hp w [.cd C, .ob B1 29 (fltCells (fx)), .ob B5 27 ((us.map dtCells).flatMap id), .rd RR, .ob (wr.heap.size) 27 (dvCells (.slice apx dx.pages.length cpx) dx (.slice aux dx.unread.length cux) (.slice afx dx.faults.length cfx))] w32) := (((HS30.out).put 27 (dvCells nilS dvNil nilS nilS)).row 4 rfl (dvCells (.slice apx dx.pages.length cpx) dx (.slice aux dx.unread.length cux) (.slice afx dx.faults.length cfx))).draws 0 rfl hb hc
        clear hb hc
        clear HS30
        generalize wr.heap.size = B6 at *
        go_wp2_with fail
        refine (bytes_any C _ ((HS32.out).codes 0 rfl)).mono ?_
        rintro e w33 ⟨sb, rfl, hsz, hb, hc⟩
        have HS33 : Hid (Hp w [.cd C, .ob B1 29 (fltCells (fx)), .ob B5 27 ((us.map dtCells).flatMap id), .rd RR, .ob B6 27 (dvCells (.slice apx dx.pages.length cpx) dx (.slice aux dx.unread.length cux) (.slice afx dx.faults.length cfx))] w33) := (HS32.out).draws 0 rfl hb hc
        clear hb hc
        clear HS32
        have HSb : Hid (sb.size ≤ maxLen) := by show _ ≤ _; rw [hsz]; decide
        clear hsz
        go_wp2_with fail
        refine (next_any C 8 _ ((HS33.out).codes 0 rfl) (by omega)).mono ?_
        rintro e w34 ⟨n8, rfl, n80, n81, hb, hc⟩
        have HS34 : Hid (Hp w [.cd C, .ob B1 29 (fltCells (fx)), .ob B5 27 ((us.map dtCells).flatMap id), .rd RR, .ob B6 27 (dvCells (.slice apx dx.pages.length cpx) dx (.slice aux dx.unread.length cux) (.slice afx dx.faults.length cfx))] w34) := (HS33.out).draws 0 rfl hb hc
        clear hb hc
        clear HS33
        clear n80 n81
        go_upto_if 84 with (fail)
        go_cut [20] (fun s20 wx => ∃ s : ByteArray, s20 = .string s ∧ s.size ≤ maxLen ∧ Hp w [.cd C, .ob B1 29 (fltCells (fx)), .ob B5 27 ((us.map dtCells).flatMap id), .rd RR, .ob B6 27 (dvCells (.slice apx dx.pages.length cpx) dx (.slice aux dx.unread.length cux) (.slice afx dx.faults.length cfx))] wx)
        case first =>
          by_cases hn : n8 = 0
          · subst hn
            go_wp2_with fail
            refine (data_any C _ ((HS34.out).codes 0 rfl)).mono ?_
            rintro e w35 ⟨s2, rfl, hsz, hb, hc⟩
            have HS35 : Hid (Hp w [.cd C, .ob B1 29 (fltCells (fx)), .ob B5 27 ((us.map dtCells).flatMap id), .rd RR, .ob B6 27 (dvCells (.slice apx dx.pages.length cpx) dx (.slice aux dx.unread.length cux) (.slice afx dx.faults.length cfx))] w35) := (HS34.out).draws 0 rfl hb hc
            clear hb hc
            clear HS34
            go_wp2_with fail
            go_meet
            exact ⟨s2, rfl, by unfold maxLen; omega, HS35.out⟩
          · have hnb : (n8 == 0) = false := by rw [beq_eq_false_iff_ne]; exact hn
            clear hn
            go_wp2_with fail
            go_meet
            exact ⟨sb, rfl, HSb.out, HS34.out⟩
        case rest =>
          obtain ⟨s, rfl, hss, hs⟩ := hcut
          have HSs := Lib.hid hss
          have HS40 := Lib.hid hs
          clear hs hss HSb HS34
          generalize wc = w41 at *
          obtain ⟨page, hpage⟩ : ∃ page : Int, pv - 1 = page := ⟨_, rfl⟩
          try rw [hpage]
          try simp only [hpage]
          clear hpage pv0 pv1
          obtain ⟨X, cX, hX⟩ : ∃ X c, writeR dx page s = (X, c) := ⟨_, _, rfl⟩
          have HGX : Hid (GB X) := Lib.hid (by have := writeR_gb HGx.out page s; rw [hX] at this; exact this)
          have HX := Lib.hid hX
          have hcX : (cX != cX) = false := by simp
          clear hX
          go_wp2_with (first | ((with_reducible refine wpList_load_ob 27 (.tmp 18) B6 (dvCells (.slice apx dx.pages.length cpx) dx (.slice aux dx.unread.length cux) (.slice afx dx.faults.length cfx)) 27 HUD.out ?_ ?_ ?_ ?_ ?_); (exact rfl); (exact (HS40.out).get 4 rfl); (exact rfl); (exact info_dv); simp only [Act.put, List.setIfInBounds_toArray, List.set_cons_zero, List.set_cons_succ]))
          refine (dv_as HX.out (write_any page s _ HDx.out ((HS40.out).reads 3 rfl) HGx.out.good HSs.out HGx.out.pg HGx.out.fl)).mono ?_
          rintro e w43 ⟨pk, uk, fk, Rk, rfl, hrd, hin, hnew, hb⟩
          obtain ⟨apk, cpk, rfl, _⟩ := hrd.pages
          obtain ⟨auk, cuk, rfl, _⟩ := hrd.unread
          obtain ⟨afk, cfk, rfl, _⟩ := hrd.faults
          have HDvk := Lib.hid hrd
          have HS43 : Hid (Hp w [.cd C, .ob B1 29 (fltCells (fx)), .ob B5 27 ((us.map dtCells).flatMap id), .rd RR, .ob B6 27 (dvCells (.slice apx dx.pages.length cpx) dx (.slice aux dx.unread.length cux) (.slice afx dx.faults.length cfx)), .rd Rk] w43) := (HS40.out).addrd hb Rk hin (fun r hr => (hnew r hr).elim .inl (fun h => .inr ⟨.rd RR, List.mem_of_getElem? (i := 3) rfl, List.mem_map.2 ⟨r, h, rfl⟩⟩))
          clear hb hin hnew hrd
          clear HS40
          go_wp2_with (first | ((with_reducible refine wpList_alloc_ob 27 (dvCells nilS dvNil nilS nilS) ?_ ?_); (exact alloc_dv); simp only [Act.put, List.setIfInBounds_toArray, List.set_cons_zero, List.set_cons_succ]) | ((with_reducible refine wpList_store_ob 27 (.tmp 21) (w43.heap.size) (dvCells (.slice apk X.pages.length cpk) X (.slice auk X.unread.length cuk) (.slice afk X.faults.length cfk)) (dvCells nilS dvNil nilS nilS) 27 ?_ ?_ ?_ ?_ ?_ ?_ ?_); (exact rfl); (exact rfl); (exact ((HS43.out).put 27 (dvCells nilS dvNil nilS nilS)).get 6 rfl); (exact info_dv); (exact rfl); (exact (oneCell_dv _ _ _ _ _ _ _ _ _ _)); skip) | ((with_reducible refine wpList_load_ob 27 (.tmp 18) B6 (dvCells (.slice apx dx.pages.length cpx) dx (.slice aux dx.unread.length cux) (.slice afx dx.faults.length cfx)) 27 HUD.out ?_ ?_ ?_ ?_ ?_); (exact rfl); (exact (((HS43.out).put 27 (dvCells nilS dvNil nilS nilS)).row 6 rfl (dvCells (.slice apk X.pages.length cpk) X (.slice auk X.unread.length cuk) (.slice afk X.faults.length cfk))).get 4 rfl); (exact rfl); (exact info_dv); simp only [Act.put, List.setIfInBounds_toArray, List.set_cons_zero, List.set_cons_succ]))
          refine (dv_as HX.out (rwrite_any page s _ HDx.out ((((HS43.out).put 27 (dvCells nilS dvNil nilS nilS)).row 6 rfl (dvCells (.slice apk X.pages.length cpk) X (.slice auk X.unread.length cuk) (.slice afk X.faults.length cfk))).reads 3 rfl) HGx.out.good HSs.out HGx.out.pg HGx.out.fl)).mono ?_
          rintro e w44 ⟨pl, ul, fl, Rl, rfl, hrd, hin, hnew, hb⟩
          obtain ⟨apl, cpl, rfl, _⟩ := hrd.pages
          obtain ⟨aul, cul, rfl, _⟩ := hrd.unread
          obtain ⟨afl, cfl, rfl, _⟩ := hrd.faults
          have HDvl := Lib.hid hrd
          have HS44 : Hid (Hp w [.cd C, .ob B1 29 (fltCells (fx)), .ob B5 27 ((us.map dtCells).flatMap id), .rd RR, .ob B6 27 (dvCells (.slice apx dx.pages.length cpx) dx (.slice aux dx.unread.length cux) (.slice afx dx.faults.length cfx)), .rd Rk, .ob (w43.heap.size) 27 (dvCells (.slice apk X.pages.length cpk) X (.slice auk X.unread.length cuk) (.slice afk X.faults.length cfk)), .rd Rl] w44) := (((HS43.out).put 27 (dvCells nilS dvNil nilS nilS)).row 6 rfl (dvCells (.slice apk X.pages.length cpk) X (.slice auk X.unread.length cuk) (.slice afk X.faults.length cfk))).addrd hb Rl hin (fun r hr => (hnew r hr).elim .inl (fun h => .inr ⟨.rd RR, List.mem_of_getElem? (i := 3) rfl, List.mem_map.2 ⟨r, h, rfl⟩⟩))
          clear hb hin hnew hrd
          clear HS43
          generalize w43.heap.size = B7 at *
          go_upto_region 17 with (first | ((with_reducible refine wpList_alloc_ob 27 (dvCells nilS dvNil nilS nilS) ?_ ?_); (exact alloc_dv); simp only [Act.put, List.setIfInBounds_toArray, List.set_cons_zero, List.set_cons_succ]) | ((with_reducible refine wpList_store_ob 27 (.tmp 23) (w44.heap.size) (dvCells (.slice apl X.pages.length cpl) X (.slice aul X.unread.length cul) (.slice afl X.faults.length cfl)) (dvCells nilS dvNil nilS nilS) 27 ?_ ?_ ?_ ?_ ?_ ?_ ?_); (exact rfl); (exact rfl); (exact ((HS44.out).put 27 (dvCells nilS dvNil nilS nilS)).get 8 rfl); (exact info_dv); (exact rfl); (exact (oneCell_dv _ _ _ _ _ _ _ _ _ _)); skip))
          have HS45 : Hid (Hp w [.cd C, .ob B1 29 (fltCells (fx)), .ob B5 27 ((us.map dtCells).flatMap id), .rd RR, .ob B6 27 (dvCells (.slice apx dx.pages.length cpx) dx (.slice aux dx.unread.length cux) (.slice afx dx.faults.length cfx)), .rd Rk, .ob B7 27 (dvCells (.slice apk X.pages.length cpk) X (.slice auk X.unread.length cuk) (.slice afk X.faults.length cfk)), .rd Rl, .ob (w44.heap.size) 27 (dvCells (.slice apl X.pages.length cpl) X (.slice aul X.unread.length cul) (.slice afl X.faults.length cfl))] ((w44.alloc (.cells (dvCells nilS dvNil nilS nilS).toArray 27)).setRow (w44.heap.size) (dvCells (.slice apl X.pages.length cpl) X (.slice aul X.unread.length cul) (.slice afl X.faults.length cfl)).toArray)) := ((HS44.out).put 27 (dvCells nilS dvNil nilS nilS)).row 8 rfl (dvCells (.slice apl X.pages.length cpl) X (.slice aul X.unread.length cul) (.slice afl X.faults.length cfl))
          clear HS44
          generalize ((w44.alloc (.cells (dvCells nilS dvNil nilS nilS).toArray 27)).setRow (w44.heap.size) (dvCells (.slice apl X.pages.length cpl) X (.slice aul X.unread.length cul) (.slice afl X.faults.length cfl)).toArray) = w45 at *
          generalize w44.heap.size = B8 at *
          obtain ⟨vb, hvb⟩ : ∃ b, dvOkB dx = b := ⟨_, rfl⟩
          have HVb := Lib.hid hvb
          have hvv : (vb != vb) = false := by simp
          clear hvb
          refine wp_region_held_drew (S := fun w' => Hold w.heap.size [.ob B6 27 (dvCells (.slice apx dx.pages.length cpx) dx (.slice aux dx.unread.length cux) (.slice afx dx.faults.length cfx)), .ob B7 27 (dvCells (.slice apk X.pages.length cpk) X (.slice auk X.unread.length cuk) (.slice afk X.faults.length cfk)), .ob B8 27 (dvCells (.slice apl X.pages.length cpl) X (.slice aul X.unread.length cul) (.slice afl X.faults.length cfl))] w') (by kernel_rfl) ((HS45.out).drew.pick [4, 6, 8] rfl) (fun hHeld => ?_)
          refine wpAnyH_take (i := 0) (oi := { dst := some 101, op := Op.move (Operand.tmp 22), type := 35, pos := "law.go:68", after := #[], guard := none }) (v := ?q7v) rfl (by kernel_rfl) (by kernel_rfl) (by kernel_rfl) (fun _ _ _ h => h) (Or.inl ⟨by rfl, ?q7h⟩) hHeld ?q7r
          case q7h => (intro wq hSw; clear hSw; go_simp; try with_reducible rfl)
          try simp only [Act.put, List.setIfInBounds_toArray, List.set_cons_zero, List.set_cons_succ]
          refine wpAnyH_take (i := 1) (oi := { dst := some 102, op := Op.move (Operand.tmp 24), type := 35, pos := "law.go:68", after := #[], guard := none }) (v := ?q8v) rfl (by kernel_rfl) (by kernel_rfl) (by kernel_rfl) (fun _ _ _ h => h) (Or.inl ⟨by rfl, ?q8h⟩) hHeld ?q8r
          case q8h => (intro wq hSw; clear hSw; go_simp; try with_reducible rfl)
          try simp only [Act.put, List.setIfInBounds_toArray, List.set_cons_zero, List.set_cons_succ]
          refine wpAnyH_take (i := 2) (oi := { dst := some 103, op := Op.binOp BinOp.neq 35 (Operand.tmp 101) (Operand.tmp 102) 35, type := 4, pos := "law.go:68", after := #[{ on := 0, ground := Ground.data }, { on := 1, ground := Ground.data }], guard := none }) (v := ?q9v) rfl (by kernel_rfl) (by kernel_rfl) (by kernel_rfl) (fun _ _ _ h => h) (Or.inl ⟨by rfl, ?q9h⟩) hHeld ?q9r
          case q9h => (intro wq hSw; clear hSw; go_simp; try with_reducible rfl)
          try simp only [Act.put, List.setIfInBounds_toArray, List.set_cons_zero, List.set_cons_succ]
          refine wpAnyH_take (i := 3) (oi := { dst := some 104, op := Op.move (Operand.tmp 103), type := 4, pos := "law.go:68", after := #[{ on := 2, ground := Ground.data }], guard := none }) (v := ?q10v) rfl (by kernel_rfl) (by kernel_rfl) (by kernel_rfl) (fun _ _ _ h => h) (Or.inl ⟨by rfl, ?q10h⟩) hHeld ?q10r
          case q10h => (intro wq hSw; clear hSw; go_simp; try with_reducible rfl)
          try simp only [Act.put, List.setIfInBounds_toArray, List.set_cons_zero, List.set_cons_succ]
          refine wpAnyH_take (i := 4) (oi := { dst := some 105, op := Op.load 27 (Operand.tmp 21), type := 27, pos := "law.go:68", after := #[{ on := 3, ground := Ground.guard }], guard := some (3, false) }) rfl (by kernel_rfl) (by kernel_rfl) (by kernel_rfl) (fun _ _ _ h => h) (yieldsIf_load_mid (by rfl) 27 (.tmp 21) rfl B7 0 rfl (dvCells (.slice apk X.pages.length cpk) X (.slice auk X.unread.length cuk) (.slice afk X.faults.length cfk)) _ (fun _ h => h.whole 1 rfl) HUD.out rfl (info_dv)) hHeld ?_
          try simp only [Act.put, List.setIfInBounds_toArray, List.set_cons_zero, List.set_cons_succ]
          refine wpAnyH_take (i := 5) (oi := { dst := some 106, op := Op.load 27 (Operand.tmp 23), type := 27, pos := "law.go:68", after := #[{ on := 3, ground := Ground.guard }], guard := some (3, false) }) rfl (by kernel_rfl) (by kernel_rfl) (by kernel_rfl) (fun _ _ _ h => h) (yieldsIf_load_mid (by rfl) 27 (.tmp 23) rfl B8 0 rfl (dvCells (.slice apl X.pages.length cpl) X (.slice aul X.unread.length cul) (.slice afl X.faults.length cfl)) _ (fun _ h => h.whole 2 rfl) HUD.out rfl (info_dv)) hHeld ?_
          try simp only [Act.put, List.setIfInBounds_toArray, List.set_cons_zero, List.set_cons_succ]
          refine wpAnyH_ready (rs := [6]) (by kernel_rfl) (by simp) ?_
          refine AllReadyH.cons (o := { dst := some 107, op := Op.call { callee := Callee.value (Operand.func 15), args := #[Operand.tmp 105, Operand.tmp 106], argTypes := #[27, 27] }, type := 4, pos := "law.go:68", after := #[{ on := 4, ground := Ground.data }, { on := 5, ground := Ground.data }, { on := 3, ground := Ground.chain }, { on := 3, ground := Ground.guard }], guard := some (3, false) }) rfl (fun K hK => ?_) (AllReadyH.nil)
          go_simp
          go_wp2_with (go_at_call 15; refine (same_dv _ HDvk.out (((HS45.out).drew).reads 5 rfl) HDvl.out (((HS45.out).drew).reads 7 rfl) HGX.out.good HGX.out.pg HGX.out.fl).mono ?_; rintro e w46 ⟨rfl, hb⟩)
          have HS46 : Hid (Hp w [.cd C, .ob B1 29 (fltCells (fx)), .ob B5 27 ((us.map dtCells).flatMap id), .rd RR, .ob B6 27 (dvCells (.slice apx dx.pages.length cpx) dx (.slice aux dx.unread.length cux) (.slice afx dx.faults.length cfx)), .rd Rk, .ob B7 27 (dvCells (.slice apk X.pages.length cpk) X (.slice auk X.unread.length cuk) (.slice afk X.faults.length cfk)), .rd Rl, .ob B8 27 (dvCells (.slice apl X.pages.length cpl) X (.slice aul X.unread.length cul) (.slice afl X.faults.length cfl))] w46) := ((HS45.out).drew).calls hb
          refine hK.out _ _ (HS46.out.pick [4, 6, 8] rfl) (fun hHeld => ?_)
          clear hK K hb
          try simp only [Act.put, List.setIfInBounds_toArray, List.set_cons_zero, List.set_cons_succ]
          refine wpAnyH_take (i := 7) (oi := { dst := some 108, op := Op.unOp UnOp.not 4 (Operand.tmp 107), type := 4, pos := "law.go:68", after := #[{ on := 6, ground := Ground.data }, { on := 3, ground := Ground.guard }], guard := some (3, false) }) (v := ?q13v) rfl (by kernel_rfl) (by kernel_rfl) (by kernel_rfl) (fun _ _ _ h => h) (Or.inl ⟨by rfl, ?q13h⟩) hHeld ?q13r
          case q13h => (intro wq hSw; clear hSw; go_simp; try with_reducible rfl)
          try simp only [Act.put, List.setIfInBounds_toArray, List.set_cons_zero, List.set_cons_succ]
          refine wpAnyH_take (i := 8) (oi := { dst := some 109, op := Op.pick (Operand.tmp 104) (Operand.const (Value.bool true)) (Operand.tmp 108), type := 4, pos := "law.go:68", after := #[{ on := 3, ground := Ground.data }, { on := 7, ground := Ground.data }], guard := none }) (v := ?q14v) rfl (by kernel_rfl) (by kernel_rfl) (by kernel_rfl) (fun _ _ _ h => h) (Or.inl ⟨by rfl, ?q14h⟩) hHeld ?q14r
          case q14h => (intro wq hSw; clear hSw; go_simp; try with_reducible rfl)
          try simp only [Act.put, List.setIfInBounds_toArray, List.set_cons_zero, List.set_cons_succ]
          refine wpAnyH_take (i := 9) (oi := { dst := some 110, op := Op.move (Operand.tmp 109), type := 4, pos := "law.go:68", after := #[{ on := 8, ground := Ground.data }, { on := 6, ground := Ground.chain }], guard := none }) (v := ?q15v) rfl (by kernel_rfl) (by kernel_rfl) (by kernel_rfl) (fun _ _ _ h => h) (Or.inl ⟨by rfl, ?q15h⟩) hHeld ?q15r
          case q15h => (intro wq hSw; clear hSw; go_simp; try with_reducible rfl)
          try simp only [Act.put, List.setIfInBounds_toArray, List.set_cons_zero, List.set_cons_succ]
          refine wpAnyH_take (i := 10) (oi := { dst := some 111, op := Op.load 27 (Operand.tmp 18), type := 27, pos := "law.go:68", after := #[{ on := 9, ground := Ground.guard }], guard := some (9, false) }) rfl (by kernel_rfl) (by kernel_rfl) (by kernel_rfl) (fun _ _ _ h => h) (yieldsIf_load_mid (by rfl) 27 (.tmp 18) rfl B6 0 rfl (dvCells (.slice apx dx.pages.length cpx) dx (.slice aux dx.unread.length cux) (.slice afx dx.faults.length cfx)) _ (fun _ h => h.whole 0 rfl) HUD.out rfl (info_dv)) hHeld ?_
          try simp only [Act.put, List.setIfInBounds_toArray, List.set_cons_zero, List.set_cons_succ]
          refine wpAnyH_take (i := 12) (oi := { dst := some 113, op := Op.load 27 (Operand.tmp 18), type := 27, pos := "law.go:68", after := #[{ on := 9, ground := Ground.guard }], guard := some (9, false) }) rfl (by kernel_rfl) (by kernel_rfl) (by kernel_rfl) (fun _ _ _ h => h) (yieldsIf_load_mid (by rfl) 27 (.tmp 18) rfl B6 0 rfl (dvCells (.slice apx dx.pages.length cpx) dx (.slice aux dx.unread.length cux) (.slice afx dx.faults.length cfx)) _ (fun _ h => h.whole 0 rfl) HUD.out rfl (info_dv)) hHeld ?_
          try simp only [Act.put, List.setIfInBounds_toArray, List.set_cons_zero, List.set_cons_succ]
          refine wpAnyH_ready (rs := [11]) (by kernel_rfl) (by simp) ?_
          refine AllReadyH.cons (o := { dst := some 112, op := Op.call { callee := Callee.value (Operand.func 22), args := #[Operand.tmp 111], argTypes := #[27] }, type := 4, pos := "law.go:68", after := #[{ on := 10, ground := Ground.data }, { on := 9, ground := Ground.chain }, { on := 9, ground := Ground.guard }], guard := some (9, false) }) rfl (fun K hK => ?_) (AllReadyH.nil)
          go_simp
          go_wp2_with (go_at_call 22; refine ((HVb.out ▸ valid_any _ HDx.out ((HS46.out).reads 3 rfl) HGx.out.good)).mono ?_; rintro e w47 ⟨rfl, hb⟩)
          have HS47 : Hid (Hp w [.cd C, .ob B1 29 (fltCells (fx)), .ob B5 27 ((us.map dtCells).flatMap id), .rd RR, .ob B6 27 (dvCells (.slice apx dx.pages.length cpx) dx (.slice aux dx.unread.length cux) (.slice afx dx.faults.length cfx)), .rd Rk, .ob B7 27 (dvCells (.slice apk X.pages.length cpk) X (.slice auk X.unread.length cuk) (.slice afk X.faults.length cfk)), .rd Rl, .ob B8 27 (dvCells (.slice apl X.pages.length cpl) X (.slice aul X.unread.length cul) (.slice afl X.faults.length cfl))] w47) := (HS46.out).calls hb
          refine hK.out _ _ (HS47.out.pick [4, 6, 8] rfl) (fun hHeld => ?_)
          clear hK K hb
          try simp only [Act.put, List.setIfInBounds_toArray, List.set_cons_zero, List.set_cons_succ]
          refine wpAnyH_ready (rs := [13]) (by kernel_rfl) (by simp) ?_
          refine AllReadyH.cons (o := { dst := some 114, op := Op.call { callee := Callee.value (Operand.func 23), args := #[Operand.tmp 113], argTypes := #[27] }, type := 4, pos := "law.go:68", after := #[{ on := 12, ground := Ground.data }, { on := 11, ground := Ground.chain }, { on := 9, ground := Ground.guard }], guard := some (9, false) }) rfl (fun K hK => ?_) (AllReadyH.nil)
          go_simp
          go_wp2_with (go_at_call 23; refine ((HVb.out ▸ rvalid_any _ HDx.out ((HS47.out).reads 3 rfl) HGx.out.good.faults HGx.out.good.pages HGx.out.good.unread)).mono ?_; rintro e w48 ⟨rfl, hb⟩)
          have HS48 : Hid (Hp w [.cd C, .ob B1 29 (fltCells (fx)), .ob B5 27 ((us.map dtCells).flatMap id), .rd RR, .ob B6 27 (dvCells (.slice apx dx.pages.length cpx) dx (.slice aux dx.unread.length cux) (.slice afx dx.faults.length cfx)), .rd Rk, .ob B7 27 (dvCells (.slice apk X.pages.length cpk) X (.slice auk X.unread.length cuk) (.slice afk X.faults.length cfk)), .rd Rl, .ob B8 27 (dvCells (.slice apl X.pages.length cpl) X (.slice aul X.unread.length cul) (.slice afl X.faults.length cfl))] w48) := (HS47.out).calls hb
          refine hK.out _ _ (HS48.out.pick [4, 6, 8] rfl) (fun hHeld => ?_)
          clear hK K hb
          try simp only [Act.put, List.setIfInBounds_toArray, List.set_cons_zero, List.set_cons_succ]
          refine wpAnyH_take (i := 14) (oi := { dst := some 115, op := Op.binOp BinOp.neq 4 (Operand.tmp 112) (Operand.tmp 114) 4, type := 4, pos := "law.go:68", after := #[{ on := 11, ground := Ground.data }, { on := 13, ground := Ground.data }, { on := 9, ground := Ground.guard }], guard := some (9, false) }) (v := ?q18v) rfl (by kernel_rfl) (by kernel_rfl) (by kernel_rfl) (fun _ _ _ h => h) (Or.inl ⟨by rfl, ?q18h⟩) hHeld ?q18r
          case q18h => (intro wq hSw; clear hSw; go_simp; try with_reducible rfl)
          try simp only [Act.put, List.setIfInBounds_toArray, List.set_cons_zero, List.set_cons_succ]
          refine wpAnyH_take (i := 15) (oi := { dst := some 116, op := Op.pick (Operand.tmp 110) (Operand.const (Value.bool true)) (Operand.tmp 115), type := 4, pos := "law.go:68", after := #[{ on := 9, ground := Ground.data }, { on := 14, ground := Ground.data }], guard := none }) (v := ?q19v) rfl (by kernel_rfl) (by kernel_rfl) (by kernel_rfl) (fun _ _ _ h => h) (Or.inl ⟨by rfl, ?q19h⟩) hHeld ?q19r
          case q19h => (intro wq hSw; clear hSw; go_simp; try with_reducible rfl)
          try simp only [Act.put, List.setIfInBounds_toArray, List.set_cons_zero, List.set_cons_succ]
          refine wpAnyH_done (by kernel_rfl) ?_ _
          clear hHeld
          have HS49 : Hid (Hp w [.cd C, .ob B1 29 (fltCells (fx)), .ob B5 27 ((us.map dtCells).flatMap id), .rd RR, .ob B6 27 (dvCells (.slice apx dx.pages.length cpx) dx (.slice aux dx.unread.length cux) (.slice afx dx.faults.length cfx)), .ob B7 27 (dvCells (.slice apk X.pages.length cpk) X (.slice auk X.unread.length cuk) (.slice afk X.faults.length cfk)), .ob B8 27 (dvCells (.slice apl X.pages.length cpl) X (.slice aul X.unread.length cul) (.slice afl X.faults.length cfl))] w48) := HS48.out.pull [0, 1, 2, 3, 4, 6, 8] rfl (pull_nd HS48.out.nd [0, 1, 2, 3, 4, 6, 8] rfl (by decide))
          clear HS48
          clear HDvk HDvl HX HGX hcX HVb hvv
          go_upto_region 19 with (fail)
          have hpn : (dx.pages.length : Int) ≤ 256 := by have := HPx.out; omega
          have HPn := Lib.hid hpn
          clear hpn
          refine wp_region_held_drew (S := fun w' => Hold w.heap.size [.ob B1 29 (fltCells (fx)), .ob B6 27 (dvCells (.slice apx dx.pages.length cpx) dx (.slice aux dx.unread.length cux) (.slice afx dx.faults.length cfx))] w') (by kernel_rfl) ((HS49.out).drew.pick [1, 4] rfl) (fun hHeld => ?_)
          refine wpAnyH_take (i := 0) (oi := { dst := some 117, op := Op.load 29 (Operand.tmp 9), type := 29, pos := "law.go:71", after := #[], guard := none }) rfl (by kernel_rfl) (by kernel_rfl) (by kernel_rfl) (fun _ _ _ h => h) (yieldsIf_load_mid (by rfl) 29 (.tmp 9) rfl B1 0 rfl (fltCells (fx)) _ (fun _ h => h.whole 0 rfl) HUF.out rfl (info_flt)) hHeld ?_
          try simp only [Act.put, List.setIfInBounds_toArray, List.set_cons_zero, List.set_cons_succ]
          refine wpAnyH_take (i := 1) (oi := { dst := some 118, op := Op.move (Operand.tmp 11), type := 32, pos := "law.go:71", after := #[], guard := none }) (v := ?q21v) rfl (by kernel_rfl) (by kernel_rfl) (by kernel_rfl) (fun _ _ _ h => h) (Or.inl ⟨by rfl, ?q21h⟩) hHeld ?q21r
          case q21h => (intro wq hSw; clear hSw; go_simp; try with_reducible rfl)
          try simp only [Act.put, List.setIfInBounds_toArray, List.set_cons_zero, List.set_cons_succ]
          refine wpAnyH_take (i := 2) (oi := { dst := some 119, op := Op.fieldAddr 27 (Operand.tmp 18) 0, type := 0, pos := "law.go:71", after := #[], guard := none }) (v := ?q22v) rfl (by kernel_rfl) (by kernel_rfl) (by kernel_rfl) (fun _ _ _ h => h) (Or.inl ⟨by rfl, ?q22h⟩) hHeld ?q22r
          case q22h => (intro wq hSw; clear hSw; go_simp; try with_reducible rfl)
          try simp only [Act.put, List.setIfInBounds_toArray, List.set_cons_zero, List.set_cons_succ]
          refine wpAnyH_take (i := 3) (oi := { dst := some 120, op := Op.load 23 (Operand.tmp 119), type := 23, pos := "law.go:71", after := #[{ on := 2, ground := Ground.data }], guard := none }) (v := .slice apx dx.pages.length cpx) rfl (by kernel_rfl) (by kernel_rfl) (by kernel_rfl) (fun _ _ _ h => h) (Or.inl ⟨by rfl, ?q23h⟩) hHeld ?q23r
          case q23h => (intro wq hSw; have lq := hSw.at 1 rfl 0 (v := .slice apx dx.pages.length cpx) rfl; clear hSw; go_simp; try with_reducible rfl)
          try simp only [Act.put, List.setIfInBounds_toArray, List.set_cons_zero, List.set_cons_succ]
          refine wpAnyH_take (i := 4) (oi := { dst := some 121, op := Op.call { callee := Callee.builtin Builtin.len, args := #[Operand.tmp 120], argTypes := #[23] }, type := 3, pos := "law.go:71", after := #[{ on := 3, ground := Ground.data }], guard := none }) (v := ?q24v) rfl (by kernel_rfl) (by kernel_rfl) (by kernel_rfl) (fun _ _ _ h => h) (Or.inl ⟨by rfl, ?q24h⟩) hHeld ?q24r
          case q24h => (intro wq hSw; clear hSw; go_simp; try with_reducible rfl)
          try simp only [Act.put, List.setIfInBounds_toArray, List.set_cons_zero, List.set_cons_succ]
          refine wpAnyH_take (i := 5) (oi := { dst := some 122, op := Op.fieldAddr 27 (Operand.tmp 18) 1, type := 0, pos := "law.go:71", after := #[], guard := none }) (v := ?q25v) rfl (by kernel_rfl) (by kernel_rfl) (by kernel_rfl) (fun _ _ _ h => h) (Or.inl ⟨by rfl, ?q25h⟩) hHeld ?q25r
          case q25h => (intro wq hSw; clear hSw; go_simp; try with_reducible rfl)
          try simp only [Act.put, List.setIfInBounds_toArray, List.set_cons_zero, List.set_cons_succ]
          refine wpAnyH_take (i := 6) (oi := { dst := some 123, op := Op.load 3 (Operand.tmp 122), type := 3, pos := "law.go:71", after := #[{ on := 5, ground := Ground.data }], guard := none }) (v := .int .i64 dx.writes) rfl (by kernel_rfl) (by kernel_rfl) (by kernel_rfl) (fun _ _ _ h => h) (Or.inl ⟨by rfl, ?q26h⟩) hHeld ?q26r
          case q26h => (intro wq hSw; have lq := hSw.at 1 rfl 1 (v := .int .i64 dx.writes) rfl; clear hSw; go_simp; try with_reducible rfl)
          try simp only [Act.put, List.setIfInBounds_toArray, List.set_cons_zero, List.set_cons_succ]
          refine wpAnyH_take (i := 10) (oi := { dst := some 127, op := Op.move (Operand.const (Value.int IntKind.i64 0)), type := 3, pos := "law.go:71", after := #[], guard := none }) (v := ?q27v) rfl (by kernel_rfl) (by kernel_rfl) (by kernel_rfl) (fun _ _ _ h => h) (Or.inl ⟨by rfl, ?q27h⟩) hHeld ?q27r
          case q27h => (intro wq hSw; clear hSw; go_simp; try with_reducible rfl)
          try simp only [Act.put, List.setIfInBounds_toArray, List.set_cons_zero, List.set_cons_succ]
          refine wpAnyH_ready (rs := [7]) (by kernel_rfl) (by simp) ?_
          refine AllReadyH.cons (o := { dst := some 124, op := Op.call { callee := Callee.value (Operand.func 24), args := #[Operand.tmp 118, Operand.tmp 121, Operand.tmp 123], argTypes := #[32, 3, 3] }, type := 29, pos := "law.go:71", after := #[{ on := 1, ground := Ground.data }, { on := 4, ground := Ground.data }, { on := 6, ground := Ground.data }], guard := none }) rfl (fun K hK => ?_) (AllReadyH.nil)
          go_simp
          go_wp2_with (go_at_call 24; refine (fault_d C dx.pages.length dx.writes _ (((HS49.out).drew).codes 0 rfl) HPn.out).mono ?_; rintro e w49 ⟨g, rfl, hgf, hb, hc⟩)
          have HS50 : Hid (Hp w [.cd C, .ob B1 29 (fltCells (fx)), .ob B5 27 ((us.map dtCells).flatMap id), .rd RR, .ob B6 27 (dvCells (.slice apx dx.pages.length cpx) dx (.slice aux dx.unread.length cux) (.slice afx dx.faults.length cfx)), .ob B7 27 (dvCells (.slice apk X.pages.length cpk) X (.slice auk X.unread.length cuk) (.slice afk X.faults.length cfk)), .ob B8 27 (dvCells (.slice apl X.pages.length cpl) X (.slice aul X.unread.length cul) (.slice afl X.faults.length cfl))] w49) := ((HS49.out).drew).draws 0 rfl hb hc
          refine hK.out _ _ (HS50.out.pick [1, 4] rfl) (fun hHeld => ?_)
          clear hK K hb hc
          have HGf := Lib.hid hgf
          clear hgf
          try simp only [Act.put, List.setIfInBounds_toArray, List.set_cons_zero, List.set_cons_succ]
          refine wpAnyH_ready (rs := [8]) (by kernel_rfl) (by simp) ?_
          refine AllReadyH.cons (o := { dst := some 125, op := Op.buildSlice 25 2 #[(0, Operand.tmp 117), (1, Operand.tmp 124)], type := 25, pos := "law.go:71", after := #[{ on := 0, ground := Ground.data }, { on := 7, ground := Ground.data }], guard := none }) rfl (fun K hK => ?_) (AllReadyH.nil)
          rw [if_pos (by rfl)]
          refine wp_build_obs rfl elem_flt HUX.out [fltCells (fx), fltCells (g)] (List.forall_mem_cons.2 ⟨rfl, (List.forall_mem_cons.2 ⟨rfl, (fun _ h => absurd h List.not_mem_nil)⟩)⟩) (Nat.succ_pos _) (by simp only [List.length_cons, List.length_nil]; omega) rfl (by simp only [List.map_toArray, List.map_cons, List.map_nil, List.zipIdx_cons, List.zipIdx_nil]; exact rfl) ?_
          have HS51 : Hid (Hp w [.cd C, .ob B1 29 (fltCells (fx)), .ob B5 27 ((us.map dtCells).flatMap id), .rd RR, .ob B6 27 (dvCells (.slice apx dx.pages.length cpx) dx (.slice aux dx.unread.length cux) (.slice afx dx.faults.length cfx)), .ob B7 27 (dvCells (.slice apk X.pages.length cpk) X (.slice auk X.unread.length cuk) (.slice afk X.faults.length cfk)), .ob B8 27 (dvCells (.slice apl X.pages.length cpl) X (.slice aul X.unread.length cul) (.slice afl X.faults.length cfl)), .ob (w49.heap.size) 29 (([fltCells (fx), fltCells (g)] : List (List Value)).flatMap id)] (w49.alloc (.cells (([fltCells (fx), fltCells (g)] : List (List Value)).flatMap id).toArray 29))) := (HS50.out).put 29 (([fltCells (fx), fltCells (g)] : List (List Value)).flatMap id)
          refine hK.out _ _ (HS51.out.pick [1, 4] rfl) (fun hHeld => ?_)
          clear hK K
          generalize (w49.alloc (.cells (([fltCells (fx), fltCells (g)] : List (List Value)).flatMap id).toArray 29)) = w50 at *
          generalize w49.heap.size = B9 at *
          try simp only [Act.put, List.setIfInBounds_toArray, List.set_cons_zero, List.set_cons_succ]
          refine wpAnyH_take (i := 9) (oi := { dst := some 126, op := Op.call { callee := Callee.builtin Builtin.len, args := #[Operand.tmp 125], argTypes := #[25] }, type := 3, pos := "law.go:71", after := #[{ on := 8, ground := Ground.data }], guard := none }) (v := ?q28v) rfl (by kernel_rfl) (by kernel_rfl) (by kernel_rfl) (fun _ _ _ h => h) (Or.inl ⟨by rfl, ?q28h⟩) hHeld ?q28r
          case q28h => (intro wq hSw; clear hSw; go_simp; try with_reducible rfl)
          try simp only [Act.put, List.setIfInBounds_toArray, List.set_cons_zero, List.set_cons_succ]
          refine wpAnyH_done (by kernel_rfl) ?_ _
          clear hHeld
          have HVg : Hid (∀ t ∈ ([fx, g] : List Flt), GoodFlt t) := by
            intro t ht
            simp only [List.mem_cons, List.not_mem_nil, or_false] at ht
            rcases ht with rfl | rfl
            · exact HGood.out.2.2
            · exact HGf.out
          have HLv : Hid (([fx, g] : List Flt).length = 2) := rfl
          have HSe : Hid (Hp w [.cd C, .ob B1 29 (fltCells (fx)), .ob B5 27 ((us.map dtCells).flatMap id), .rd RR, .ob B6 27 (dvCells (.slice apx dx.pages.length cpx) dx (.slice aux dx.unread.length cux) (.slice afx dx.faults.length cfx)), .ob B7 27 (dvCells (.slice apk X.pages.length cpk) X (.slice auk X.unread.length cuk) (.slice afk X.faults.length cfk)), .ob B8 27 (dvCells (.slice apl X.pages.length cpl) X (.slice aul X.unread.length cul) (.slice afl X.faults.length cfl)), .ob B9 29 ((([fx, g] : List Flt).map fltCells).flatMap id)] w50) := HS51.out
          clear HS51
          have HS52 : Hid (Hp w [.cd C, .ob B1 29 (fltCells (fx)), .ob B5 27 ((us.map dtCells).flatMap id), .rd RR, .ob B6 27 (dvCells (.slice apx dx.pages.length cpx) dx (.slice aux dx.unread.length cux) (.slice afx dx.faults.length cfx)), .ob B7 27 (dvCells (.slice apk X.pages.length cpk) X (.slice auk X.unread.length cuk) (.slice afk X.faults.length cfk)), .ob B8 27 (dvCells (.slice apl X.pages.length cpl) X (.slice aul X.unread.length cul) (.slice afl X.faults.length cfl)), .ob B9 29 ((([fx, g] : List Flt).map fltCells).flatMap id)] w50) := HSe.out.pull [0, 1, 2, 3, 4, 5, 6, 7] rfl (pull_nd HSe.out.nd [0, 1, 2, 3, 4, 5, 6, 7] rfl (by decide))
          clear HSe
          generalize ([fx, g] : List Flt) = vs at *
          clear HGf
          go_wp2_with fail
          go_loopw [127] (fun i wr => ∃ (k : Nat) (e1 e2 : Dv) (p1 u1 f1 p2 u2 f2 : Value), k ≤ 2 ∧ i = .int .i64 k ∧ Hp w [.cd C, .ob B1 29 (fltCells (fx)), .ob B5 27 ((us.map dtCells).flatMap id), .rd RR, .ob B6 27 (dvCells (.slice apx dx.pages.length cpx) dx (.slice aux dx.unread.length cux) (.slice afx dx.faults.length cfx)), .ob B7 27 (dvCells p1 e1 u1 f1), .ob B8 27 (dvCells p2 e2 u2 f2), .ob B9 29 ((vs.map fltCells).flatMap id)] wr) (fun i _ => 2 - (intOf i).toNat)
          case atStart => exact ⟨0, _, _, _, _, _, _, _, _, by omega, rfl, HS52.out⟩
          case round =>
            obtain ⟨k, e1, e2, p1, u1, f1, p2, u2, f2, hk, rfl, hs⟩ := hrel
            clear HS52
            by_cases hlt : k < 2
            · have HS50 := Lib.hid hs
              clear hs
              have hkl : k < vs.length := by rw [HLv.out]; exact hlt
              obtain ⟨y, hy⟩ : ∃ y, vs[k] = y := ⟨_, rfl⟩
              have HYg : Hid (GoodFlt y) := HVg.out y (by rw [← hy]; exact List.getElem_mem hkl)
              have HY1 : Hid ((vs.map fltCells)[k]? = some (fltCells y)) := by show _ = _; rw [List.getElem?_map, List.getElem?_eq_getElem hkl, hy]; rfl
              have hk2 : (k : Int) < 2 := by omega
              have HK2 := Lib.hid hlt
              clear hy hkl hlt hk
              obtain ⟨X, cX, hX⟩ : ∃ X c, injectR dx y = (X, c) := ⟨_, _, rfl⟩
              have HGX : Hid (GB X) := Lib.hid (by have := injectR_gb HGx.out HYg.out; rw [hX] at this; exact this)
              have HX := Lib.hid hX
              have hcX : (cX != cX) = false := by simp
              clear hX
              go_wp2_with (first | ((with_reducible refine wpList_load_at 29 (.tmp 129) B9 ((k * 6)) (fltCells (y)) HUF.out ?_ ?_ ?_ ?_ ?_); (exact rfl); (exact (HS50.out).mid 7 rfl (k * 6) (fltCells y) (flat_mid (vs.map fltCells) flt_len k _ HY1.out)); (exact rfl); (exact info_flt); simp only [Act.put, List.setIfInBounds_toArray, List.set_cons_zero, List.set_cons_succ]) | ((with_reducible refine wpList_alloc_ob 29 (fltCells (fltNil)) ?_ ?_); (exact alloc_flt); simp only [Act.put, List.setIfInBounds_toArray, List.set_cons_zero, List.set_cons_succ]) | ((with_reducible refine wpList_store_ob 29 (.tmp 26) (wr.heap.size) (fltCells (y)) (fltCells (fltNil)) 29 ?_ ?_ ?_ ?_ ?_ ?_ ?_); (exact rfl); (exact rfl); (exact ((HS50.out).put 29 (fltCells (fltNil))).get 8 rfl); (exact info_flt); (exact rfl); (exact (oneCell_flt _)); skip) | ((with_reducible refine wpList_load_ob 27 (.tmp 18) B6 (dvCells (.slice apx dx.pages.length cpx) dx (.slice aux dx.unread.length cux) (.slice afx dx.faults.length cfx)) 27 HUD.out ?_ ?_ ?_ ?_ ?_); (exact rfl); (exact (((HS50.out).put 29 (fltCells (fltNil))).row 8 rfl (fltCells (y))).get 4 rfl); (exact rfl); (exact info_dv); simp only [Act.put, List.setIfInBounds_toArray, List.set_cons_zero, List.set_cons_succ]) | ((with_reducible refine wpList_load_ob 29 (.tmp 26) (wr.heap.size) (fltCells (y)) 29 HUF.out ?_ ?_ ?_ ?_ ?_); (exact rfl); (exact (((HS50.out).put 29 (fltCells (fltNil))).row 8 rfl (fltCells (y))).get 8 rfl); (exact rfl); (exact info_flt); simp only [Act.put, List.setIfInBounds_toArray, List.set_cons_zero, List.set_cons_succ]))
              refine (dv_as HX.out (inject_any y  _ HDx.out ((((HS50.out).put 29 (fltCells (fltNil))).row 8 rfl (fltCells (y))).reads 3 rfl) HGx.out.good HYg.out HGx.out.pg HGx.out.fl)).mono ?_
              rintro e w81 ⟨pk, uk, fk, Rk, rfl, hrd, hin, hnew, hb⟩
              obtain ⟨apk, cpk, rfl, _⟩ := hrd.pages
              obtain ⟨auk, cuk, rfl, _⟩ := hrd.unread
              obtain ⟨afk, cfk, rfl, _⟩ := hrd.faults
              have HDvk := Lib.hid hrd
              have HS83 : Hid (Hp w [.cd C, .ob B1 29 (fltCells (fx)), .ob B5 27 ((us.map dtCells).flatMap id), .rd RR, .ob B6 27 (dvCells (.slice apx dx.pages.length cpx) dx (.slice aux dx.unread.length cux) (.slice afx dx.faults.length cfx)), .ob B7 27 (dvCells p1 e1 u1 f1), .ob B8 27 (dvCells p2 e2 u2 f2), .ob B9 29 ((vs.map fltCells).flatMap id), .ob (wr.heap.size) 29 (fltCells (y)), .rd Rk] w81) := (((HS50.out).put 29 (fltCells (fltNil))).row 8 rfl (fltCells (y))).addrd hb Rk hin (fun r hr => (hnew r hr).elim .inl (fun h => .inr ⟨.rd RR, List.mem_of_getElem? (i := 3) rfl, List.mem_map.2 ⟨r, h, rfl⟩⟩))
              clear hb hin hnew hrd
              clear HS50
              generalize wr.heap.size = B10 at *
              go_wp2_with (first | ((with_reducible refine wpList_store_ob 27 (.tmp 21) B7 (dvCells (.slice apk X.pages.length cpk) X (.slice auk X.unread.length cuk) (.slice afk X.faults.length cfk)) (dvCells p1 e1 u1 f1) 27 ?_ ?_ ?_ ?_ ?_ ?_ ?_); (exact rfl); (exact rfl); (exact (HS83.out).get 5 rfl); (exact info_dv); (exact rfl); (exact (oneCell_dv _ _ _ _ _ _ _ _ _ _)); skip) | ((with_reducible refine wpList_load_ob 27 (.tmp 18) B6 (dvCells (.slice apx dx.pages.length cpx) dx (.slice aux dx.unread.length cux) (.slice afx dx.faults.length cfx)) 27 HUD.out ?_ ?_ ?_ ?_ ?_); (exact rfl); (exact ((HS83.out).row 5 rfl (dvCells (.slice apk X.pages.length cpk) X (.slice auk X.unread.length cuk) (.slice afk X.faults.length cfk))).get 4 rfl); (exact rfl); (exact info_dv); simp only [Act.put, List.setIfInBounds_toArray, List.set_cons_zero, List.set_cons_succ]) | ((with_reducible refine wpList_load_ob 29 (.tmp 26) B10 (fltCells (y)) 29 HUF.out ?_ ?_ ?_ ?_ ?_); (exact rfl); (exact ((HS83.out).row 5 rfl (dvCells (.slice apk X.pages.length cpk) X (.slice auk X.unread.length cuk) (.slice afk X.faults.length cfk))).get 8 rfl); (exact rfl); (exact info_flt); simp only [Act.put, List.setIfInBounds_toArray, List.set_cons_zero, List.set_cons_succ]))
              refine (dv_as HX.out (rinject_any y  _ HDx.out (((HS83.out).row 5 rfl (dvCells (.slice apk X.pages.length cpk) X (.slice auk X.unread.length cuk) (.slice afk X.faults.length cfk))).reads 3 rfl) HGx.out.good HYg.out HGx.out.pg HGx.out.fl)).mono ?_
              rintro e w82 ⟨pl, ul, fl, Rl, rfl, hrd, hin, hnew, hb⟩
              obtain ⟨apl, cpl, rfl, _⟩ := hrd.pages
              obtain ⟨aul, cul, rfl, _⟩ := hrd.unread
              obtain ⟨afl, cfl, rfl, _⟩ := hrd.faults
              have HDvl := Lib.hid hrd
              have HS84 : Hid (Hp w [.cd C, .ob B1 29 (fltCells (fx)), .ob B5 27 ((us.map dtCells).flatMap id), .rd RR, .ob B6 27 (dvCells (.slice apx dx.pages.length cpx) dx (.slice aux dx.unread.length cux) (.slice afx dx.faults.length cfx)), .ob B7 27 (dvCells (.slice apk X.pages.length cpk) X (.slice auk X.unread.length cuk) (.slice afk X.faults.length cfk)), .ob B8 27 (dvCells p2 e2 u2 f2), .ob B9 29 ((vs.map fltCells).flatMap id), .ob B10 29 (fltCells (y)), .rd Rk, .rd Rl] w82) := ((HS83.out).row 5 rfl (dvCells (.slice apk X.pages.length cpk) X (.slice auk X.unread.length cuk) (.slice afk X.faults.length cfk))).addrd hb Rl hin (fun r hr => (hnew r hr).elim .inl (fun h => .inr ⟨.rd RR, List.mem_of_getElem? (i := 3) rfl, List.mem_map.2 ⟨r, h, rfl⟩⟩))
              clear hb hin hnew hrd
              clear HS83
              go_wp2_with (first | ((with_reducible refine wpList_store_ob 27 (.tmp 23) B8 (dvCells (.slice apl X.pages.length cpl) X (.slice aul X.unread.length cul) (.slice afl X.faults.length cfl)) (dvCells p2 e2 u2 f2) 27 ?_ ?_ ?_ ?_ ?_ ?_ ?_); (exact rfl); (exact rfl); (exact (HS84.out).get 6 rfl); (exact info_dv); (exact rfl); (exact (oneCell_dv _ _ _ _ _ _ _ _ _ _)); skip) | ((with_reducible refine wpList_load_ob_w 27 (.tmp 21) B7 (dvCells (.slice apk X.pages.length cpk) X (.slice auk X.unread.length cuk) (.slice afk X.faults.length cfk)) 27 HUD.out ?_ ?_ ?_ ?_ ?_ ?_); (exact rfl); (exact rfl); (exact ((HS84.out).row 6 rfl (dvCells (.slice apl X.pages.length cpl) X (.slice aul X.unread.length cul) (.slice afl X.faults.length cfl))).get 5 rfl); (exact rfl); (exact info_dv); simp only [Act.put, List.setIfInBounds_toArray, List.set_cons_zero, List.set_cons_succ]) | ((with_reducible refine wpList_load_ob_w 27 (.tmp 23) B8 (dvCells (.slice apl X.pages.length cpl) X (.slice aul X.unread.length cul) (.slice afl X.faults.length cfl)) 27 HUD.out ?_ ?_ ?_ ?_ ?_ ?_); (exact rfl); (exact rfl); (exact ((HS84.out).row 6 rfl (dvCells (.slice apl X.pages.length cpl) X (.slice aul X.unread.length cul) (.slice afl X.faults.length cfl))).get 6 rfl); (exact rfl); (exact info_dv); simp only [Act.put, List.setIfInBounds_toArray, List.set_cons_zero, List.set_cons_succ]))
              refine (same_dv _ HDvk.out (((HS84.out).row 6 rfl (dvCells (.slice apl X.pages.length cpl) X (.slice aul X.unread.length cul) (.slice afl X.faults.length cfl))).reads 9 rfl) HDvl.out (((HS84.out).row 6 rfl (dvCells (.slice apl X.pages.length cpl) X (.slice aul X.unread.length cul) (.slice afl X.faults.length cfl))).reads 10 rfl) HGX.out.good HGX.out.pg HGX.out.fl).mono ?_
              rintro e w83 ⟨rfl, hb⟩
              have HS85 : Hid (Hp w [.cd C, .ob B1 29 (fltCells (fx)), .ob B5 27 ((us.map dtCells).flatMap id), .rd RR, .ob B6 27 (dvCells (.slice apx dx.pages.length cpx) dx (.slice aux dx.unread.length cux) (.slice afx dx.faults.length cfx)), .ob B7 27 (dvCells (.slice apk X.pages.length cpk) X (.slice auk X.unread.length cuk) (.slice afk X.faults.length cfk)), .ob B8 27 (dvCells (.slice apl X.pages.length cpl) X (.slice aul X.unread.length cul) (.slice afl X.faults.length cfl)), .ob B9 29 ((vs.map fltCells).flatMap id), .ob B10 29 (fltCells (y)), .rd Rk, .rd Rl] w83) := ((HS84.out).row 6 rfl (dvCells (.slice apl X.pages.length cpl) X (.slice aul X.unread.length cul) (.slice afl X.faults.length cfl))).calls hb
              clear hb
              clear HS84
              go_wp2_with fail
              go_roundw
              case rel => exact ⟨k + 1, _, _, _, _, _, _, _, _, by have := HK2.out; omega, by go_num, (HS85.out).pull [0, 1, 2, 3, 4, 5, 6, 7] rfl (pull_nd (HS85.out).nd [0, 1, 2, 3, 4, 5, 6, 7] rfl (by decide))⟩
              case measure => simp [intOf]; have := HK2.out; omega
            · obtain rfl : k = 2 := by omega
              have HS90 := Lib.hid hs
              clear hs
              have HS143 : Hid (Hp w [.cd C, .ob B1 29 (fltCells (fx)), .ob B5 27 ((us.map dtCells).flatMap id), .rd RR, .ob B6 27 (dvCells (.slice apx dx.pages.length cpx) dx (.slice aux dx.unread.length cux) (.slice afx dx.faults.length cfx)), .ob B7 27 (dvCells p1 e1 u1 f1), .ob B8 27 (dvCells p2 e2 u2 f2)] wr) := HS90.out.pull [0, 1, 2, 3, 4, 5, 6] rfl (pull_nd HS90.out.nd [0, 1, 2, 3, 4, 5, 6] rfl (by decide))
              clear HS90
              go_wp2_with fail
              refine (next_any C 257 _ ((HS143.out).codes 0 rfl) (by omega)).mono ?_
              rintro e w141 ⟨nn, rfl, nn0, nn1, hb, hc⟩
              have HS144 : Hid (Hp w [.cd C, .ob B1 29 (fltCells (fx)), .ob B5 27 ((us.map dtCells).flatMap id), .rd RR, .ob B6 27 (dvCells (.slice apx dx.pages.length cpx) dx (.slice aux dx.unread.length cux) (.slice afx dx.faults.length cfx)), .ob B7 27 (dvCells p1 e1 u1 f1), .ob B8 27 (dvCells p2 e2 u2 f2)] w141) := (HS143.out).draws 0 rfl hb hc
              clear hb hc
              clear HS143
              clear nn0 nn1
              go_wp2_with (first | ((with_reducible refine wpList_build_vals 24 2 elem_i HUI.out [.int .i64 cut, .int .i64 nn] ?_ ?_ ?_ ?_ ?_ ?_); (exact (by intro v hv; simp only [List.mem_cons, List.not_mem_nil, or_false] at hv; rcases hv with rfl | rfl <;> rfl)); (exact Nat.succ_pos _); (simp only [List.length_cons, List.length_nil]; omega); (exact rfl); (simp only [List.map_toArray, List.map_cons, List.map_nil, List.zipIdx_cons, List.zipIdx_nil]; exact rfl); simp only [Act.put, List.setIfInBounds_toArray, List.set_cons_zero, List.set_cons_succ]))
              have HS145 : Hid (Hp w [.cd C, .ob B1 29 (fltCells (fx)), .ob B5 27 ((us.map dtCells).flatMap id), .rd RR, .ob B6 27 (dvCells (.slice apx dx.pages.length cpx) dx (.slice aux dx.unread.length cux) (.slice afx dx.faults.length cfx)), .ob B7 27 (dvCells p1 e1 u1 f1), .ob B8 27 (dvCells p2 e2 u2 f2), .ob (w141.heap.size) 3 ([.int .i64 cut, .int .i64 nn])] (w141.alloc (.cells ([.int .i64 cut, .int .i64 nn]).toArray 3))) := (HS144.out).put 3 ([.int .i64 cut, .int .i64 nn])
              clear HS144
              generalize (w141.alloc (.cells ([.int .i64 cut, .int .i64 nn]).toArray 3)) = w142 at *
              generalize w141.heap.size = B10 at *
              have HZs : Hid (∀ k, k < 2 → ∃ c : Int, ([.int .i64 cut, .int .i64 nn] : List Value)[k]? = some (.int .i64 c)) := by
                intro k hk
                match k, hk with
                | 0, _ => exact ⟨cut, rfl⟩
                | 1, _ => exact ⟨nn, rfl⟩
              generalize ([.int .i64 cut, .int .i64 nn] : List Value) = cv at *
              have HS146 : Hid (Hp w [.cd C, .ob B1 29 (fltCells (fx)), .ob B5 27 ((us.map dtCells).flatMap id), .rd RR, .ob B6 27 (dvCells (.slice apx dx.pages.length cpx) dx (.slice aux dx.unread.length cux) (.slice afx dx.faults.length cfx)), .ob B7 27 (dvCells p1 e1 u1 f1), .ob B8 27 (dvCells p2 e2 u2 f2), .ob B10 3 (cv)] w142) := HS145.out.pull [0, 1, 2, 3, 4, 5, 6, 7] rfl (pull_nd HS145.out.nd [0, 1, 2, 3, 4, 5, 6, 7] rfl (by decide))
              clear HS145
              go_wp2_with fail
              go_loopw [158] (fun i wr => ∃ (k : Nat) (e1 e2 : Dv) (p1 u1 f1 p2 u2 f2 : Value), k ≤ 2 ∧ i = .int .i64 k ∧ Hp w [.cd C, .ob B1 29 (fltCells (fx)), .ob B5 27 ((us.map dtCells).flatMap id), .rd RR, .ob B6 27 (dvCells (.slice apx dx.pages.length cpx) dx (.slice aux dx.unread.length cux) (.slice afx dx.faults.length cfx)), .ob B7 27 (dvCells p1 e1 u1 f1), .ob B8 27 (dvCells p2 e2 u2 f2), .ob B10 3 (cv)] wr) (fun i _ => 2 - (intOf i).toNat)
              case atStart => exact ⟨0, _, _, _, _, _, _, _, _, by omega, rfl, HS146.out⟩
              case round =>
                obtain ⟨k, e1, e2, p1, u1, f1, p2, u2, f2, hk, rfl, hs⟩ := hrel
                clear HS146
                by_cases hlt : k < 2
                · have HS50 := Lib.hid hs
                  clear hs
                  obtain ⟨ct, hct⟩ := HZs.out k hlt
                  have hcell := HS50.out.at 7 rfl k hct
                  have hk2 : (k : Int) < 2 := by omega
                  have HK2 := Lib.hid hlt
                  clear hct hlt hk
                  obtain ⟨X, cX, hX⟩ : ∃ X c, tearR dx page s ct = (X, c) := ⟨_, _, rfl⟩
                  have HGX : Hid (GB X) := Lib.hid (by have := tearR_gb HGx.out page s ct; rw [hX] at this; exact this)
                  have HX := Lib.hid hX
                  have hcX : (cX != cX) = false := by simp
                  clear hX
                  go_wp2_with (first | ((with_reducible refine wpList_load_ob 27 (.tmp 18) B6 (dvCells (.slice apx dx.pages.length cpx) dx (.slice aux dx.unread.length cux) (.slice afx dx.faults.length cfx)) 27 HUD.out ?_ ?_ ?_ ?_ ?_); (exact rfl); (exact (HS50.out).get 4 rfl); (exact rfl); (exact info_dv); simp only [Act.put, List.setIfInBounds_toArray, List.set_cons_zero, List.set_cons_succ]))
                  refine (dv_as HX.out (tear_any page s ct  _ HDx.out ((HS50.out).reads 3 rfl) HGx.out.good HSs.out HGx.out.pg HGx.out.fl)).mono ?_
                  rintro e w173 ⟨pk, uk, fk, Rk, rfl, hrd, hin, hnew, hb⟩
                  obtain ⟨apk, cpk, rfl, _⟩ := hrd.pages
                  obtain ⟨auk, cuk, rfl, _⟩ := hrd.unread
                  obtain ⟨afk, cfk, rfl, _⟩ := hrd.faults
                  have HDvk := Lib.hid hrd
                  have HS177 : Hid (Hp w [.cd C, .ob B1 29 (fltCells (fx)), .ob B5 27 ((us.map dtCells).flatMap id), .rd RR, .ob B6 27 (dvCells (.slice apx dx.pages.length cpx) dx (.slice aux dx.unread.length cux) (.slice afx dx.faults.length cfx)), .ob B7 27 (dvCells p1 e1 u1 f1), .ob B8 27 (dvCells p2 e2 u2 f2), .ob B10 3 (cv), .rd Rk] w173) := (HS50.out).addrd hb Rk hin (fun r hr => (hnew r hr).elim .inl (fun h => .inr ⟨.rd RR, List.mem_of_getElem? (i := 3) rfl, List.mem_map.2 ⟨r, h, rfl⟩⟩))
                  clear hb hin hnew hrd
                  clear HS50
                  go_wp2_with (first | ((with_reducible refine wpList_store_ob 27 (.tmp 21) B7 (dvCells (.slice apk X.pages.length cpk) X (.slice auk X.unread.length cuk) (.slice afk X.faults.length cfk)) (dvCells p1 e1 u1 f1) 27 ?_ ?_ ?_ ?_ ?_ ?_ ?_); (exact rfl); (exact rfl); (exact (HS177.out).get 5 rfl); (exact info_dv); (exact rfl); (exact (oneCell_dv _ _ _ _ _ _ _ _ _ _)); skip) | ((with_reducible refine wpList_load_ob 27 (.tmp 18) B6 (dvCells (.slice apx dx.pages.length cpx) dx (.slice aux dx.unread.length cux) (.slice afx dx.faults.length cfx)) 27 HUD.out ?_ ?_ ?_ ?_ ?_); (exact rfl); (exact ((HS177.out).row 5 rfl (dvCells (.slice apk X.pages.length cpk) X (.slice auk X.unread.length cuk) (.slice afk X.faults.length cfk))).get 4 rfl); (exact rfl); (exact info_dv); simp only [Act.put, List.setIfInBounds_toArray, List.set_cons_zero, List.set_cons_succ]))
                  refine (dv_as HX.out (rtear_any page s ct  _ HDx.out (((HS177.out).row 5 rfl (dvCells (.slice apk X.pages.length cpk) X (.slice auk X.unread.length cuk) (.slice afk X.faults.length cfk))).reads 3 rfl) HGx.out.good HSs.out HGx.out.pg HGx.out.fl)).mono ?_
                  rintro e w174 ⟨pl, ul, fl, Rl, rfl, hrd, hin, hnew, hb⟩
                  obtain ⟨apl, cpl, rfl, _⟩ := hrd.pages
                  obtain ⟨aul, cul, rfl, _⟩ := hrd.unread
                  obtain ⟨afl, cfl, rfl, _⟩ := hrd.faults
                  have HDvl := Lib.hid hrd
                  have HS178 : Hid (Hp w [.cd C, .ob B1 29 (fltCells (fx)), .ob B5 27 ((us.map dtCells).flatMap id), .rd RR, .ob B6 27 (dvCells (.slice apx dx.pages.length cpx) dx (.slice aux dx.unread.length cux) (.slice afx dx.faults.length cfx)), .ob B7 27 (dvCells (.slice apk X.pages.length cpk) X (.slice auk X.unread.length cuk) (.slice afk X.faults.length cfk)), .ob B8 27 (dvCells p2 e2 u2 f2), .ob B10 3 (cv), .rd Rk, .rd Rl] w174) := ((HS177.out).row 5 rfl (dvCells (.slice apk X.pages.length cpk) X (.slice auk X.unread.length cuk) (.slice afk X.faults.length cfk))).addrd hb Rl hin (fun r hr => (hnew r hr).elim .inl (fun h => .inr ⟨.rd RR, List.mem_of_getElem? (i := 3) rfl, List.mem_map.2 ⟨r, h, rfl⟩⟩))
                  clear hb hin hnew hrd
                  clear HS177
                  go_wp2_with (first | ((with_reducible refine wpList_store_ob 27 (.tmp 23) B8 (dvCells (.slice apl X.pages.length cpl) X (.slice aul X.unread.length cul) (.slice afl X.faults.length cfl)) (dvCells p2 e2 u2 f2) 27 ?_ ?_ ?_ ?_ ?_ ?_ ?_); (exact rfl); (exact rfl); (exact (HS178.out).get 6 rfl); (exact info_dv); (exact rfl); (exact (oneCell_dv _ _ _ _ _ _ _ _ _ _)); skip) | ((with_reducible refine wpList_load_ob_w 27 (.tmp 21) B7 (dvCells (.slice apk X.pages.length cpk) X (.slice auk X.unread.length cuk) (.slice afk X.faults.length cfk)) 27 HUD.out ?_ ?_ ?_ ?_ ?_ ?_); (exact rfl); (exact rfl); (exact ((HS178.out).row 6 rfl (dvCells (.slice apl X.pages.length cpl) X (.slice aul X.unread.length cul) (.slice afl X.faults.length cfl))).get 5 rfl); (exact rfl); (exact info_dv); simp only [Act.put, List.setIfInBounds_toArray, List.set_cons_zero, List.set_cons_succ]) | ((with_reducible refine wpList_load_ob_w 27 (.tmp 23) B8 (dvCells (.slice apl X.pages.length cpl) X (.slice aul X.unread.length cul) (.slice afl X.faults.length cfl)) 27 HUD.out ?_ ?_ ?_ ?_ ?_ ?_); (exact rfl); (exact rfl); (exact ((HS178.out).row 6 rfl (dvCells (.slice apl X.pages.length cpl) X (.slice aul X.unread.length cul) (.slice afl X.faults.length cfl))).get 6 rfl); (exact rfl); (exact info_dv); simp only [Act.put, List.setIfInBounds_toArray, List.set_cons_zero, List.set_cons_succ]))
                  refine (same_dv _ HDvk.out (((HS178.out).row 6 rfl (dvCells (.slice apl X.pages.length cpl) X (.slice aul X.unread.length cul) (.slice afl X.faults.length cfl))).reads 8 rfl) HDvl.out (((HS178.out).row 6 rfl (dvCells (.slice apl X.pages.length cpl) X (.slice aul X.unread.length cul) (.slice afl X.faults.length cfl))).reads 9 rfl) HGX.out.good HGX.out.pg HGX.out.fl).mono ?_
                  rintro e w175 ⟨rfl, hb⟩
                  have HS179 : Hid (Hp w [.cd C, .ob B1 29 (fltCells (fx)), .ob B5 27 ((us.map dtCells).flatMap id), .rd RR, .ob B6 27 (dvCells (.slice apx dx.pages.length cpx) dx (.slice aux dx.unread.length cux) (.slice afx dx.faults.length cfx)), .ob B7 27 (dvCells (.slice apk X.pages.length cpk) X (.slice auk X.unread.length cuk) (.slice afk X.faults.length cfk)), .ob B8 27 (dvCells (.slice apl X.pages.length cpl) X (.slice aul X.unread.length cul) (.slice afl X.faults.length cfl)), .ob B10 3 (cv), .rd Rk, .rd Rl] w175) := ((HS178.out).row 6 rfl (dvCells (.slice apl X.pages.length cpl) X (.slice aul X.unread.length cul) (.slice afl X.faults.length cfl))).calls hb
                  clear hb
                  clear HS178
                  go_wp2_with fail
                  go_roundw
                  case rel => exact ⟨k + 1, _, _, _, _, _, _, _, _, by have := HK2.out; omega, by go_num, (HS179.out).pull [0, 1, 2, 3, 4, 5, 6, 7] rfl (pull_nd (HS179.out).nd [0, 1, 2, 3, 4, 5, 6, 7] rfl (by decide))⟩
                  case measure => simp [intOf]; have := HK2.out; omega
                · obtain rfl : k = 2 := by omega
                  have HS90 := Lib.hid hs
                  clear hs
                  have HS237 : Hid (Hp w [.cd C, .ob B1 29 (fltCells (fx)), .ob B5 27 ((us.map dtCells).flatMap id), .rd RR, .ob B6 27 (dvCells (.slice apx dx.pages.length cpx) dx (.slice aux dx.unread.length cux) (.slice afx dx.faults.length cfx)), .ob B7 27 (dvCells p1 e1 u1 f1), .ob B8 27 (dvCells p2 e2 u2 f2)] wr) := HS90.out.pull [0, 1, 2, 3, 4, 5, 6] rfl (pull_nd HS90.out.nd [0, 1, 2, 3, 4, 5, 6] rfl (by decide))
                  clear HS90
                  obtain ⟨X, cX, hX⟩ : ∃ X c, replaceR dx = (X, c) := ⟨_, _, rfl⟩
                  have HGX : Hid (GB X) := Lib.hid (by have := replaceR_gb HGx.out; rw [hX] at this; exact this)
                  have HX := Lib.hid hX
                  have hcX : (cX != cX) = false := by simp
                  clear hX
                  obtain ⟨sr, gr, hsr⟩ : ∃ a b, readR dx page = (a, b) := ⟨_, _, rfl⟩
                  have HSr := Lib.hid hsr
                  have hgr : (gr != gr) = false := by simp
                  clear hsr
                  go_wp2_with (first | ((with_reducible refine wpList_load_ob 27 (.tmp 18) B6 (dvCells (.slice apx dx.pages.length cpx) dx (.slice aux dx.unread.length cux) (.slice afx dx.faults.length cfx)) 27 HUD.out ?_ ?_ ?_ ?_ ?_); (exact rfl); (exact (HS237.out).get 4 rfl); (exact rfl); (exact info_dv); simp only [Act.put, List.setIfInBounds_toArray, List.set_cons_zero, List.set_cons_succ]))
                  refine (dv_as HX.out (replace_any  _ HDx.out ((HS237.out).reads 3 rfl) HGx.out.good HGx.out.fl)).mono ?_
                  rintro e w233 ⟨pk, uk, fk, Rk, rfl, hrd, hin, hnew, hb⟩
                  obtain ⟨apk, cpk, rfl, _⟩ := hrd.pages
                  obtain ⟨auk, cuk, rfl, _⟩ := hrd.unread
                  obtain ⟨afk, cfk, rfl, _⟩ := hrd.faults
                  have HDvk := Lib.hid hrd
                  have HS238 : Hid (Hp w [.cd C, .ob B1 29 (fltCells (fx)), .ob B5 27 ((us.map dtCells).flatMap id), .rd RR, .ob B6 27 (dvCells (.slice apx dx.pages.length cpx) dx (.slice aux dx.unread.length cux) (.slice afx dx.faults.length cfx)), .ob B7 27 (dvCells p1 e1 u1 f1), .ob B8 27 (dvCells p2 e2 u2 f2), .rd Rk] w233) := (HS237.out).addrd hb Rk hin (fun r hr => (hnew r hr).elim .inl (fun h => .inr ⟨.rd RR, List.mem_of_getElem? (i := 3) rfl, List.mem_map.2 ⟨r, h, rfl⟩⟩))
                  clear hb hin hnew hrd
                  clear HS237
                  go_wp2_with (first | ((with_reducible refine wpList_store_ob 27 (.tmp 21) B7 (dvCells (.slice apk X.pages.length cpk) X (.slice auk X.unread.length cuk) (.slice afk X.faults.length cfk)) (dvCells p1 e1 u1 f1) 27 ?_ ?_ ?_ ?_ ?_ ?_ ?_); (exact rfl); (exact rfl); (exact (HS238.out).get 5 rfl); (exact info_dv); (exact rfl); (exact (oneCell_dv _ _ _ _ _ _ _ _ _ _)); skip) | ((with_reducible refine wpList_load_ob 27 (.tmp 18) B6 (dvCells (.slice apx dx.pages.length cpx) dx (.slice aux dx.unread.length cux) (.slice afx dx.faults.length cfx)) 27 HUD.out ?_ ?_ ?_ ?_ ?_); (exact rfl); (exact ((HS238.out).row 5 rfl (dvCells (.slice apk X.pages.length cpk) X (.slice auk X.unread.length cuk) (.slice afk X.faults.length cfk))).get 4 rfl); (exact rfl); (exact info_dv); simp only [Act.put, List.setIfInBounds_toArray, List.set_cons_zero, List.set_cons_succ]))
                  refine (dv_as HX.out (rreplace_any  _ HDx.out (((HS238.out).row 5 rfl (dvCells (.slice apk X.pages.length cpk) X (.slice auk X.unread.length cuk) (.slice afk X.faults.length cfk))).reads 3 rfl) HGx.out.good HGx.out.fl)).mono ?_
                  rintro e w234 ⟨pl, ul, fl, Rl, rfl, hrd, hin, hnew, hb⟩
                  obtain ⟨apl, cpl, rfl, _⟩ := hrd.pages
                  obtain ⟨aul, cul, rfl, _⟩ := hrd.unread
                  obtain ⟨afl, cfl, rfl, _⟩ := hrd.faults
                  have HDvl := Lib.hid hrd
                  have HS239 : Hid (Hp w [.cd C, .ob B1 29 (fltCells (fx)), .ob B5 27 ((us.map dtCells).flatMap id), .rd RR, .ob B6 27 (dvCells (.slice apx dx.pages.length cpx) dx (.slice aux dx.unread.length cux) (.slice afx dx.faults.length cfx)), .ob B7 27 (dvCells (.slice apk X.pages.length cpk) X (.slice auk X.unread.length cuk) (.slice afk X.faults.length cfk)), .ob B8 27 (dvCells p2 e2 u2 f2), .rd Rk, .rd Rl] w234) := ((HS238.out).row 5 rfl (dvCells (.slice apk X.pages.length cpk) X (.slice auk X.unread.length cuk) (.slice afk X.faults.length cfk))).addrd hb Rl hin (fun r hr => (hnew r hr).elim .inl (fun h => .inr ⟨.rd RR, List.mem_of_getElem? (i := 3) rfl, List.mem_map.2 ⟨r, h, rfl⟩⟩))
                  clear hb hin hnew hrd
                  clear HS238
                  go_wp2_with (first | ((with_reducible refine wpList_store_ob 27 (.tmp 23) B8 (dvCells (.slice apl X.pages.length cpl) X (.slice aul X.unread.length cul) (.slice afl X.faults.length cfl)) (dvCells p2 e2 u2 f2) 27 ?_ ?_ ?_ ?_ ?_ ?_ ?_); (exact rfl); (exact rfl); (exact (HS239.out).get 6 rfl); (exact info_dv); (exact rfl); (exact (oneCell_dv _ _ _ _ _ _ _ _ _ _)); skip) | ((with_reducible refine wpList_load_ob 27 (.tmp 18) B6 (dvCells (.slice apx dx.pages.length cpx) dx (.slice aux dx.unread.length cux) (.slice afx dx.faults.length cfx)) 27 HUD.out ?_ ?_ ?_ ?_ ?_); (exact rfl); (exact ((HS239.out).row 6 rfl (dvCells (.slice apl X.pages.length cpl) X (.slice aul X.unread.length cul) (.slice afl X.faults.length cfl))).get 4 rfl); (exact rfl); (exact info_dv); simp only [Act.put, List.setIfInBounds_toArray, List.set_cons_zero, List.set_cons_succ]))
                  refine ((HSr.out ▸ read_any page _ HDx.out (((HS239.out).row 6 rfl (dvCells (.slice apl X.pages.length cpl) X (.slice aul X.unread.length cul) (.slice afl X.faults.length cfl))).reads 3 rfl) HGx.out.good)).mono ?_
                  rintro e w235 ⟨rfl, hb⟩
                  have HS240 : Hid (Hp w [.cd C, .ob B1 29 (fltCells (fx)), .ob B5 27 ((us.map dtCells).flatMap id), .rd RR, .ob B6 27 (dvCells (.slice apx dx.pages.length cpx) dx (.slice aux dx.unread.length cux) (.slice afx dx.faults.length cfx)), .ob B7 27 (dvCells (.slice apk X.pages.length cpk) X (.slice auk X.unread.length cuk) (.slice afk X.faults.length cfk)), .ob B8 27 (dvCells (.slice apl X.pages.length cpl) X (.slice aul X.unread.length cul) (.slice afl X.faults.length cfl)), .rd Rk, .rd Rl] w235) := ((HS239.out).row 6 rfl (dvCells (.slice apl X.pages.length cpl) X (.slice aul X.unread.length cul) (.slice afl X.faults.length cfl))).calls hb
                  clear hb
                  clear HS239
                  go_wp2_with (first | ((with_reducible refine wpList_load_ob 27 (.tmp 18) B6 (dvCells (.slice apx dx.pages.length cpx) dx (.slice aux dx.unread.length cux) (.slice afx dx.faults.length cfx)) 27 HUD.out ?_ ?_ ?_ ?_ ?_); (exact rfl); (exact (HS240.out).get 4 rfl); (exact rfl); (exact info_dv); simp only [Act.put, List.setIfInBounds_toArray, List.set_cons_zero, List.set_cons_succ]))
                  refine ((HSr.out ▸ rread_any page _ HDx.out ((HS240.out).reads 3 rfl) HGx.out.good)).mono ?_
                  rintro e w236 ⟨rfl, hb⟩
                  have HS241 : Hid (Hp w [.cd C, .ob B1 29 (fltCells (fx)), .ob B5 27 ((us.map dtCells).flatMap id), .rd RR, .ob B6 27 (dvCells (.slice apx dx.pages.length cpx) dx (.slice aux dx.unread.length cux) (.slice afx dx.faults.length cfx)), .ob B7 27 (dvCells (.slice apk X.pages.length cpk) X (.slice auk X.unread.length cuk) (.slice afk X.faults.length cfk)), .ob B8 27 (dvCells (.slice apl X.pages.length cpl) X (.slice aul X.unread.length cul) (.slice afl X.faults.length cfl)), .rd Rk, .rd Rl] w236) := (HS240.out).calls hb
                  clear hb
                  clear HS240
                  go_wp2_with (first | ((with_reducible refine wpList_load_ob_w 27 (.tmp 21) B7 (dvCells (.slice apk X.pages.length cpk) X (.slice auk X.unread.length cuk) (.slice afk X.faults.length cfk)) 27 HUD.out ?_ ?_ ?_ ?_ ?_ ?_); (exact rfl); (exact rfl); (exact (HS241.out).get 5 rfl); (exact rfl); (exact info_dv); simp only [Act.put, List.setIfInBounds_toArray, List.set_cons_zero, List.set_cons_succ]) | ((with_reducible refine wpList_load_ob_w 27 (.tmp 23) B8 (dvCells (.slice apl X.pages.length cpl) X (.slice aul X.unread.length cul) (.slice afl X.faults.length cfl)) 27 HUD.out ?_ ?_ ?_ ?_ ?_ ?_); (exact rfl); (exact rfl); (exact (HS241.out).get 6 rfl); (exact rfl); (exact info_dv); simp only [Act.put, List.setIfInBounds_toArray, List.set_cons_zero, List.set_cons_succ]))
                  refine (same_dv _ HDvk.out ((HS241.out).reads 7 rfl) HDvl.out ((HS241.out).reads 8 rfl) HGX.out.good HGX.out.pg HGX.out.fl).mono ?_
                  rintro e w237 ⟨rfl, hb⟩
                  have HS242 : Hid (Hp w [.cd C, .ob B1 29 (fltCells (fx)), .ob B5 27 ((us.map dtCells).flatMap id), .rd RR, .ob B6 27 (dvCells (.slice apx dx.pages.length cpx) dx (.slice aux dx.unread.length cux) (.slice afx dx.faults.length cfx)), .ob B7 27 (dvCells (.slice apk X.pages.length cpk) X (.slice auk X.unread.length cuk) (.slice afk X.faults.length cfk)), .ob B8 27 (dvCells (.slice apl X.pages.length cpl) X (.slice aul X.unread.length cul) (.slice afl X.faults.length cfl)), .rd Rk, .rd Rl] w237) := (HS241.out).calls hb
                  clear hb
                  clear HS241
                  go_wp2_with fail
                  go_roundw
                  case rel => exact ⟨j + 1, by have := HJ3.out; omega, by go_num, (HS242.out).pull [0, 1, 2, 3] rfl (pull_nd (HS242.out).nd [0, 1, 2, 3] rfl (by decide))⟩
                  case measure => simp [intOf]; have := HJ3.out; omega
      · obtain rfl : j = 3 := by omega
        go_wp2_with fail
        go_ret
        exact ⟨rfl, hs.old⟩
end Go.Proofs.Ythcjkbhkidijoaa
/- a slice that came in, opened: its elements are values of a kind, and its cells read -/
namespace Go.Proofs.Ythcjkbhkidijoaa
open Go.RowKit
set_option maxRecDepth 20000

theorem flat_len {X : Type} (f : X → List Value) (z : Nat) (hf : ∀ x, (f x).length = z) (l : List X) : (l.flatMap f).length = l.length * z := by
  induction l with
  | nil => simp
  | cons x l ih => rw [List.flatMap_cons, List.length_append, hf, ih, List.length_cons, Nat.add_mul]; omega
theorem flat_at {X : Type} (f : X → List Value) (z : Nat) (hf : ∀ x, (f x).length = z) : ∀ (l : List X) (q : Nat) (u : Value), (l.flatMap f)[q]? = some u → q / z < l.length ∧ ∃ x, l[q / z]? = some x ∧ (f x)[q % z]? = some u
  | [], q, u, h => by simp at h
  | x :: l, q, u, h => by
    rw [List.flatMap_cons] at h
    by_cases hq : q < z
    · rw [List.getElem?_append_left (by rw [hf]; exact hq)] at h
      rw [Nat.div_eq_of_lt hq, Nat.mod_eq_of_lt hq]
      exact ⟨Nat.succ_pos _, x, rfl, h⟩
    · have hz : 0 < z := by
        rcases Nat.eq_zero_or_pos z with h0 | h0
        · subst h0
          rw [List.getElem?_append_right (by rw [hf]; omega), hf] at h
          have : (l.flatMap f).length = 0 := by rw [flat_len f 0 hf, Nat.mul_zero]
          rw [List.eq_nil_of_length_eq_zero this] at h
          simp at h
        · exact h0
      rw [List.getElem?_append_right (by rw [hf]; omega), hf] at h
      obtain ⟨h1, y, h2, h3⟩ := flat_at f z hf l (q - z) u h
      have e1 : q / z = (q - z) / z + 1 := by rw [Nat.div_eq_sub_div hz (by omega)]
      have e2 : q % z = (q - z) % z := by rw [Nat.mod_eq_sub_mod (by omega)]
      rw [e1, e2]
      exact ⟨by simp only [List.length_cons]; omega, y, by simpa using h2, h3⟩
section
variable {H : Type} {enc : TypeId × Value → H} {W : World} {base : Nat} {held : Bool}
theorem open_sl {X : Type} [Inhabited X] (f : X → List Value) (Good : X → Prop) {t e : TypeId} (z : Nat) (hz : 0 < z) (ht : Try.prog.underlying t = some (.slice e)) (hc : Try.prog.cellsOf e = z) (hf : ∀ x, (f x).length = z)
    (hel : ∀ n cs y, DataW.trod enc Try.prog W base (fun _ => true) held n e cs = some y → cs.length = z → ∃ x, cs = f x ∧ Good x)
    {n : Nat} {v : Value} {y : DataW H × List MemPlace} (h : DataW.trod enc Try.prog W base (fun _ => true) held n t [v] = some y) :
    ∃ (l : List X) (R : List Rng), SlRd v z l.length (l.flatMap f) R ∧ RdIn W R ∧ ∀ x ∈ l, Good x := by
  rcases Go.Deep.open_slice ht h with ⟨hcs, _⟩ | ⟨a, len, cap, m, n', D, Pl, hcs, hb, hl, hm, hmm, _, hx⟩
  · obtain rfl : v = .slice none 0 0 := by simpa using hcs
    exact ⟨[], [], SlRd.nil z [], RdIn.nil W, fun x hx => by cases hx⟩
  · obtain rfl : v = .slice (some a) len cap := by simpa using hcs
    have hm2 : m = cap := by rw [hmm]; rfl
    subst hm2
    clear hmm
    rw [hc] at hx
    obtain ⟨g, hg⟩ := Go.Deep.choose_lt (n := m) (p := fun i (x : X) => W.cells? base (a.add (i * z)) z = some (f x) ∧ Good x) (fun i hi => by
      obtain ⟨cs', h1, h2⟩ := hx i hi
      obtain ⟨_, hlen, _⟩ := World.cells?_some h1
      obtain ⟨x, rfl, hgx⟩ := hel _ _ _ h2 hlen
      exact ⟨x, h1, hgx⟩)
    have hlen : ((List.range len).map g).length = len := by simp
    have hcell : ∀ i, i < len → ∀ r u, (f (g i))[r]? = some u → W.cell? ((a.add (i * z)).add r) = some u := fun i hi r u hu => by
      obtain ⟨_, hl2, hc2⟩ := World.cells?_some (hg i (by omega)).1
      have hr : r < z := by rw [← hl2]; exact (List.getElem?_eq_some_iff.1 hu).1
      rw [hc2 r hr]; exact hu
    rcases Nat.eq_zero_or_pos len with h0 | h0
    · subst h0
      refine ⟨[], [], ⟨some a, m, rfl, by simp, hl, hm, fun h => absurd h (Nat.lt_irrefl 0), fun h => by cases h⟩, RdIn.nil W, fun x hx => by cases hx⟩
    · have hspot : a.spot = none := by
        have hlt : 0 < (f (g 0)).length := by rw [hf]; exact hz
        have := hcell 0 h0 0 _ (List.getElem?_eq_getElem hlt)
        rw [Nat.zero_mul, show (a.add 0) = a from rfl, show (a.add 0) = a from rfl] at this
        exact World.cell?_spot this
      obtain ⟨gb, off, sp⟩ := a
      obtain rfl : sp = none := hspot
      have hrange : W.rangeAt gb off (((List.range len).map g).flatMap f) := fun j u hu => by
        obtain ⟨h1, x, h2, h3⟩ := flat_at f z hf _ _ _ hu
        rw [hlen] at h1
        rw [List.getElem?_map, List.getElem?_range h1] at h2
        obtain rfl : g (j / z) = x := by simpa using h2
        have := hcell _ h1 _ _ h3
        rw [Addr.add_mid, Addr.add_mid, Nat.add_assoc, show j / z * z + j % z = j by rw [Nat.mul_comm]; exact Nat.div_add_mod j z] at this
        exact this
      refine ⟨(List.range len).map g, [(gb, off, ((List.range len).map g).flatMap f)], ⟨some ⟨gb, off, none⟩, m, by rw [hlen], by rw [flat_len f z hf], by rw [hlen]; exact hl, hm, fun _ => ⟨gb, off, rfl, List.mem_singleton.2 rfl⟩, fun h => by cases h⟩, fun r hr => ?_, fun x hx => ?_⟩
      · obtain rfl := List.mem_singleton.1 hr
        refine ⟨?_, hrange⟩
        have hlt : 0 < (f (g 0)).length := by rw [hf]; exact hz
        have hc0 := hcell 0 h0 0 _ (List.getElem?_eq_getElem hlt)
        rw [Nat.zero_mul] at hc0
        unfold World.cell? at hc0
        split at hc0
        · next hh => exact (Array.getElem?_eq_some_iff.1 hh).1
        · cases hc0
      · obtain ⟨i, hi, rfl⟩ := List.mem_map.1 hx
        exact (hg i (by have := List.mem_range.1 hi; omega)).2
end
end Go.Proofs.Ythcjkbhkidijoaa
/- a device that came in by value, opened -/
namespace Go.Proofs.Ythcjkbhkidijoaa
open Go.RowKit
set_option maxRecDepth 20000

section
variable {H : Type} {enc : TypeId × Value → H} {W : World} {base : Nat} {held : Bool}
instance : Inhabited Flt := ⟨⟨0, 0, 0, 0, 0, 0⟩⟩
theorem el_str (n : Nat) (cs : List Value) (y : DataW H × List MemPlace) (h : DataW.trod enc Try.prog W base (fun _ => true) held n 9 cs = some y) (_ : cs.length = 1) : ∃ x : ByteArray, cs = (fun s => [Value.string s]) x ∧ x.size ≤ maxLen := by
  obtain ⟨s, rfl, _, hw⟩ := DataW.trod_string Try.underlying9 h
  exact ⟨s, rfl, hw⟩
theorem el_int (n : Nat) (cs : List Value) (y : DataW H × List MemPlace) (h : DataW.trod enc Try.prog W base (fun _ => true) held n 3 cs = some y) (_ : cs.length = 1) : ∃ x : Int, cs = (fun k => [Value.int .i64 k]) x ∧ (Lit.int .i64 x).wf = true := by
  obtain ⟨s, rfl, _, hw⟩ := DataW.trod_int Try.underlying3 h
  exact ⟨s, rfl, hw⟩
theorem six {cs : List Value} (h : cs.length = 6) : ∃ a b c d e f, cs = [a, b, c, d, e, f] := by
  match cs, h with
  | [a, b, c, d, e, f], _ => exact ⟨a, b, c, d, e, f, rfl⟩
theorem five {cs : Array Value} (h : cs.size = 5) : ∃ a b c d e, cs = #[a, b, c, d, e] := by
  obtain ⟨l⟩ := cs
  match l, h with
  | [a, b, c, d, e], _ => exact ⟨a, b, c, d, e, rfl⟩
theorem cellsOf_str1 : Try.prog.cellsOf 9 = 1 := by kernel_rfl
theorem cellsOf_bool1 : Try.prog.cellsOf 4 = 1 := by kernel_rfl
theorem cellsOf_sls : Try.prog.cellsOf 23 = 1 := by kernel_rfl
theorem cellsOf_sli : Try.prog.cellsOf 24 = 1 := by kernel_rfl
theorem cellsOf_slf : Try.prog.cellsOf 25 = 1 := by kernel_rfl
theorem cellsOf_dv5 : Try.prog.cellsOf 27 = 5 := by kernel_rfl
theorem in_range {xs : List (DataW H × List MemPlace)} {k m : Nat} (h : xs.length = m) (hk : k < m) : ∃ x, xs[k]? = some x := ⟨_, List.getElem?_eq_getElem (by omega)⟩
theorem el_flt (n : Nat) (cs : List Value) (y : DataW H × List MemPlace) (h : DataW.trod enc Try.prog W base (fun _ => true) held n 29 cs = some y) (hl : cs.length = 6) : ∃ x : Flt, cs = fltCells x ∧ GoodFlt x := by
  obtain ⟨a, b, c, d, e, f, rfl⟩ := six hl
  obtain ⟨xs, n, _, _, _, hn, hf⟩ := DataW.trod_struct Try.underlying29 h
  have get : ∀ k, k < 6 → ∃ x, xs[k]? = some x := fun k hk => in_range hn hk
  obtain ⟨x0, e0⟩ := get 0 (by decide)
  obtain ⟨x1, e1⟩ := get 1 (by decide)
  obtain ⟨x2, e2⟩ := get 2 (by decide)
  obtain ⟨x3, e3⟩ := get 3 (by decide)
  obtain ⟨x4, e4⟩ := get 4 (by decide)
  obtain ⟨x5, e5⟩ := get 5 (by decide)
  have h0 : DataW.trod enc Try.prog W base (fun _ => true) held n 3 ((([a, b, c, d, e, f] : List Value).drop 0).take (Try.prog.cellsOf 3)) = some x0 := (hf 0 _ rfl).trans e0
  have h1 : DataW.trod enc Try.prog W base (fun _ => true) held n 3 ((([a, b, c, d, e, f] : List Value).drop 1).take (Try.prog.cellsOf 3)) = some x1 := (hf 1 _ rfl).trans e1
  have h2 : DataW.trod enc Try.prog W base (fun _ => true) held n 3 ((([a, b, c, d, e, f] : List Value).drop 2).take (Try.prog.cellsOf 3)) = some x2 := (hf 2 _ rfl).trans e2
  have h3 : DataW.trod enc Try.prog W base (fun _ => true) held n 3 ((([a, b, c, d, e, f] : List Value).drop 3).take (Try.prog.cellsOf 3)) = some x3 := (hf 3 _ rfl).trans e3
  have h4 : DataW.trod enc Try.prog W base (fun _ => true) held n 3 ((([a, b, c, d, e, f] : List Value).drop 4).take (Try.prog.cellsOf 3)) = some x4 := (hf 4 _ rfl).trans e4
  have h5 : DataW.trod enc Try.prog W base (fun _ => true) held n 5 ((([a, b, c, d, e, f] : List Value).drop 5).take (Try.prog.cellsOf 5)) = some x5 := (hf 5 _ rfl).trans e5
  simp only [cellsOf_i, cellsOf_u8, List.drop_zero, List.drop_succ_cons, List.take_succ_cons, List.take_zero] at h0 h1 h2 h3 h4 h5
  obtain ⟨k0, q0, _, g0⟩ := DataW.trod_int Try.underlying3 h0
  obtain ⟨k1, q1, _, g1⟩ := DataW.trod_int Try.underlying3 h1
  obtain ⟨k2, q2, _, g2⟩ := DataW.trod_int Try.underlying3 h2
  obtain ⟨k3, q3, _, g3⟩ := DataW.trod_int Try.underlying3 h3
  obtain ⟨k4, q4, _, g4⟩ := DataW.trod_int Try.underlying3 h4
  obtain ⟨k5, q5, _, g5⟩ := DataW.trod_int Try.underlying5 h5
  obtain rfl : a = .int .i64 k0 := by simpa using q0
  obtain rfl : b = .int .i64 k1 := by simpa using q1
  obtain rfl : c = .int .i64 k2 := by simpa using q2
  obtain rfl : d = .int .i64 k3 := by simpa using q3
  obtain rfl : e = .int .i64 k4 := by simpa using q4
  obtain rfl : f = .int .u8 k5 := by simpa using q5
  exact ⟨⟨k0, k1, k2, k3, k4, k5⟩, rfl, g0, g1, g2, g3, g4, g5⟩
theorem open_fault {r : Reach} {b0 : Nat} {v : Value} (hval : Value.okWide Try.prog W r b0 29 v) {d : DataW H} {p : List MemPlace} (h : DataW.Trod enc Try.prog W base (fun _ => true) held 29 v d p) : ∃ x, v = .agg (fltCells x).toArray ∧ GoodFlt x := by
  obtain ⟨cs, rfl, hsz⟩ := Go.WideShapes.okWide_struct Try.underlying29 hval
  obtain ⟨m, hm⟩ := h
  obtain ⟨x, hx, hg⟩ := el_flt m _ _ hm (by simp only [Value.cells, Array.length_toList]; rw [hsz, cellsOf_flt])
  refine ⟨x, ?_, hg⟩
  rw [← hx]
  simp [Value.cells]
/-- the device's own pages are texts of memory; that the list of unreadable pages is short is a condition of those that use it -/
theorem open_device {r : Reach} {b0 : Nat} {v : Value} (hval : Value.okWide Try.prog W r b0 27 v) {d : DataW H} {ps : List MemPlace} (h : DataW.Trod enc Try.prog W base (fun _ => true) held 27 v d ps) :
    ∃ (d : Dv) (p u f : Value) (R : List Rng), v = .agg (dvCells p d u f).toArray ∧ DvRd p u f d R ∧ RdIn W R ∧ (∀ x ∈ d.pages, x.size ≤ maxLen) ∧ (∀ x ∈ d.faults, GoodFlt x) := by
  obtain ⟨cs, rfl, hsz⟩ := Go.WideShapes.okWide_struct Try.underlying27 hval
  rw [cellsOf_dv5] at hsz
  obtain ⟨a, b, c, e, f, rfl⟩ := five hsz
  obtain ⟨m, hm⟩ := h
  obtain ⟨xs, n, _, _, _, hn, hf⟩ := DataW.trod_struct Try.underlying27 hm
  have get : ∀ k, k < 5 → ∃ x, xs[k]? = some x := fun k hk => in_range hn hk
  obtain ⟨x0, e0⟩ := get 0 (by decide)
  obtain ⟨x1, e1⟩ := get 1 (by decide)
  obtain ⟨x2, e2⟩ := get 2 (by decide)
  obtain ⟨x3, e3⟩ := get 3 (by decide)
  obtain ⟨x4, e4⟩ := get 4 (by decide)
  have h0 : DataW.trod enc Try.prog W base (fun _ => true) held n 23 ((([a, b, c, e, f] : List Value).drop 0).take (Try.prog.cellsOf 23)) = some x0 := (hf 0 _ rfl).trans e0
  have h1 : DataW.trod enc Try.prog W base (fun _ => true) held n 3 ((([a, b, c, e, f] : List Value).drop 1).take (Try.prog.cellsOf 3)) = some x1 := (hf 1 _ rfl).trans e1
  have h2 : DataW.trod enc Try.prog W base (fun _ => true) held n 24 ((([a, b, c, e, f] : List Value).drop 2).take (Try.prog.cellsOf 24)) = some x2 := (hf 2 _ rfl).trans e2
  have h3 : DataW.trod enc Try.prog W base (fun _ => true) held n 4 ((([a, b, c, e, f] : List Value).drop 3).take (Try.prog.cellsOf 4)) = some x3 := (hf 3 _ rfl).trans e3
  have h4 : DataW.trod enc Try.prog W base (fun _ => true) held n 25 ((([a, b, c, e, f] : List Value).drop 4).take (Try.prog.cellsOf 25)) = some x4 := (hf 4 _ rfl).trans e4
  simp only [cellsOf_i, cellsOf_bool1, cellsOf_sls, cellsOf_sli, cellsOf_slf, List.drop_zero, List.drop_succ_cons, List.take_succ_cons, List.take_zero] at h0 h1 h2 h3 h4
  obtain ⟨wr, q1, _, g1⟩ := DataW.trod_int Try.underlying3 h1
  obtain ⟨dd, q3, _⟩ := DataW.trod_bool Try.underlying4 h3
  obtain rfl : b = .int .i64 wr := by simpa using q1
  obtain rfl : e = .bool dd := by simpa using q3
  obtain ⟨lp, Rp, hp, hp2, hp3⟩ := open_sl (fun s => [Value.string s]) (fun s => s.size ≤ maxLen) 1 (by decide) Try.underlying23 cellsOf_str1 (fun _ => rfl) el_str h0
  obtain ⟨lu, Ru, hu, hu2, _⟩ := open_sl (fun k => [Value.int .i64 k]) (fun k => (Lit.int .i64 k).wf = true) 1 (by decide) Try.underlying24 cellsOf_i (fun _ => rfl) el_int h2
  obtain ⟨lf, Rf, hf1, hf2, hf3⟩ := open_sl fltCells GoodFlt 6 (by decide) Try.underlying25 cellsOf_flt (fun _ => rfl) el_flt h4
  have sp : (lp.flatMap fun s => [Value.string s]) = strRow lp := by unfold strRow; rw [List.map_eq_flatMap]
  have su : (lu.flatMap fun k => [Value.int .i64 k]) = intRow lu := by unfold intRow; rw [List.map_eq_flatMap]
  rw [sp] at hp
  rw [su] at hu
  refine ⟨⟨lp, wr, lu, dd, lf⟩, a, c, f, Rp ++ (Ru ++ Rf), rfl, ⟨hp.mono (fun r h => List.mem_append_left _ h), hu.mono (fun r h => List.mem_append_right _ (List.mem_append_left _ h)), hf1.mono (fun r h => List.mem_append_right _ (List.mem_append_right _ h))⟩, hp2.append (hu2.append hf2), hp3, hf3⟩
end
/-- the empty device and the empty fault, as the witness brings them, and their readings -/
def dvNilV : Value := .agg (dvCells (.slice none 0 0) dvNil (.slice none 0 0) (.slice none 0 0)).toArray
def dvNilD {H : Type} : DataW H := .agg [.nil, .lit (.int .i64 0), .nil, .lit (.bool false), .nil]
def fltNilV : Value := .agg (fltCells fltNil).toArray
def fltNilD {H : Type} : DataW H := .agg [.lit (.int .i64 0), .lit (.int .i64 0), .lit (.int .i64 0), .lit (.int .i64 0), .lit (.int .i64 0), .lit (.int .u8 0)]
end Go.Proofs.Ythcjkbhkidijoaa
