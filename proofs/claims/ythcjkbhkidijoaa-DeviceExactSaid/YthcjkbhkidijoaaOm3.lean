/- texts of a claim, one after the other: the library's copies of a device's slices, the program's copied, the walk of the reference's Inject, the program's Inject, what the program's Write is made of, the program's Write, the program's Tear, the program's blanks, the program's New, the program's Replace, devices that are valid, and what the functions of chapter 4 make of them, what the functions of chapter 4 answer is a device that they can be asked of again; what a drawing function made is read, the choices of a law's walk, as a thing, the choices of the drawing package: how many are left, the choices of the drawing package: Int, the choices of the drawing package, with how many are left: Int, Fault, within a drawing function: things in new memory beside choices that were there before, the reference's place -/
import Derived.Test.YthcjkbhkidijoaaOm1
import Derived.WalkSpells
import Derived.Test.YthcjkbhkidijoaaOm2
import Derived.Deep.CutBlock
/- the library's copies of a device's slices -/
namespace Go.Proofs.Ythcjkbhkidijoaa
open Go.RowKit
set_option maxRecDepth 20000
set_option linter.unusedSimpArgs false
set_option linter.unusedVariables false

set_option maxHeartbeats 4000000 in
theorem cloneS_any (l : List ByteArray) (v : Value) (R : List Rng) (w : World) (hv : SlRd v 1 l.length (strRow l) R) (hR : RdIn w R) (hl : l.length ≤ 1000) :
    Calls Try.prog 60 #[v] w fun e w' => ∃ u, e = .returned u ∧ Below w.heap.size w w' ∧ w'.ownsRow w.heap.size 9 1 u l.length (strRow l) := by
  have HV := Lib.hid hv
  have HR := Lib.hid hR
  have HL := Lib.hid hl
  obtain ⟨a, cap, rfl, h1, h2, h3, h4, h5⟩ := hv
  have HUT : Hid (Try.prog.underlying 23 = some (.slice 9)) := Try.underlying23
  have hq : ∀ W, Sem.run Try.prog (binOp .eql 23 (.slice a l.length cap) (.slice none 0 0)) W = .ok (.bool a.isNone) W := fun W => Lib.run_eql_slice_nil W _ _ a l.length cap 0 0 HUT.out
  clear hR hl
  cases a with
  | none =>
    have hq2 : ∀ W, Sem.run Try.prog (binOp .eql 23 (.slice none l.length cap) (.slice none 0 0)) W = .ok (.bool true) W := hq
    have hc := h5 rfl
    have hn : l.length = 0 := by omega
    have HX : Hid (Below w.heap.size w w ∧ w.ownsRow w.heap.size 9 1 (.slice none 0 0) l.length (strRow l)) := ⟨Below.refl _ _, by rw [hn]; exact ⟨by rw [h1, hn], .inl ⟨rfl, rfl⟩⟩⟩
    clear h1 h2 h3 h4 h5 hq hc
    rw [hn] at hq2
    rw [hn]
    go_enter Try.func60, Try.ntmps60
    go_wp2_with fail
    go_ret
    refine ⟨_, rfl, ?_⟩
    have h := HX.out
    rw [hn] at h
    exact h
  | some a =>
    have h0 := (Hp.start w).put 9 []
    have HS0 : Hid (Hp w [.sl (.slice (some ⟨w.heap.size, 0, none⟩) 0 0) 9 1 0 []] (w.alloc (.cells #[] 9))) :=
      (Hp.start w).addown ((Below.refl _ _).alloc (Nat.le_refl _) _) ⟨by simp, .inr ⟨w.heap.size, 0, #[], rfl, Nat.le_refl _, heap_alloc_last w _, Nat.le_refl _, Nat.zero_le _, by simp, by simp⟩⟩
    clear h0 h1 h2 h3 h4 h5
    go_enter Try.func60, Try.ntmps60
    go_wp2_with (first | ((with_reducible refine wpList_append_sl (HS0.out) (.tmp 5) (.tmp 6) 23 0 (v := .slice (some ⟨w.heap.size, 0, none⟩) 0 0) (n := 0) (xs := []) ?_ (xv := .slice (some a) l.length cap) (m := l.length) (ys := strRow l) (R := R) ?_ ?_ HUT.out elem_s ?_ ?_ ?_ ?_ ?_); (exact rfl); (exact HV.out); (exact HR.out.below HS0.out.old); (exact rfl); (exact rfl); (exact (one_strs _)); (exact (by have := HL.out; omega))))
    intro v1 w1 hs
    have hs2 : Hp w [.sl v1 9 1 (0 + l.length) ([] ++ strRow l)] w1 := hs
    clear hs HS0
    rw [Nat.zero_add, List.nil_append] at hs2
    have HA := Lib.hid hs2
    clear hs2
    go_wp2_with fail
    go_ret
    exact ⟨_, rfl, HA.out.old, HA.out.own 0 rfl⟩
set_option maxHeartbeats 4000000 in
theorem cloneI_any (l : List Int) (v : Value) (R : List Rng) (w : World) (hv : SlRd v 1 l.length (intRow l) R) (hR : RdIn w R) (hl : l.length ≤ 1000) :
    Calls Try.prog 61 #[v] w fun e w' => ∃ u, e = .returned u ∧ Below w.heap.size w w' ∧ w'.ownsRow w.heap.size 3 1 u l.length (intRow l) := by
  have HV := Lib.hid hv
  have HR := Lib.hid hR
  have HL := Lib.hid hl
  obtain ⟨a, cap, rfl, h1, h2, h3, h4, h5⟩ := hv
  have HUT : Hid (Try.prog.underlying 24 = some (.slice 3)) := Try.underlying24
  have hq : ∀ W, Sem.run Try.prog (binOp .eql 24 (.slice a l.length cap) (.slice none 0 0)) W = .ok (.bool a.isNone) W := fun W => Lib.run_eql_slice_nil W _ _ a l.length cap 0 0 HUT.out
  clear hR hl
  cases a with
  | none =>
    have hq2 : ∀ W, Sem.run Try.prog (binOp .eql 24 (.slice none l.length cap) (.slice none 0 0)) W = .ok (.bool true) W := hq
    have hc := h5 rfl
    have hn : l.length = 0 := by omega
    have HX : Hid (Below w.heap.size w w ∧ w.ownsRow w.heap.size 3 1 (.slice none 0 0) l.length (intRow l)) := ⟨Below.refl _ _, by rw [hn]; exact ⟨by rw [h1, hn], .inl ⟨rfl, rfl⟩⟩⟩
    clear h1 h2 h3 h4 h5 hq hc
    rw [hn] at hq2
    rw [hn]
    go_enter Try.func61, Try.ntmps61
    go_wp2_with fail
    go_ret
    refine ⟨_, rfl, ?_⟩
    have h := HX.out
    rw [hn] at h
    exact h
  | some a =>
    have h0 := (Hp.start w).put 3 []
    have HS0 : Hid (Hp w [.sl (.slice (some ⟨w.heap.size, 0, none⟩) 0 0) 3 1 0 []] (w.alloc (.cells #[] 3))) :=
      (Hp.start w).addown ((Below.refl _ _).alloc (Nat.le_refl _) _) ⟨by simp, .inr ⟨w.heap.size, 0, #[], rfl, Nat.le_refl _, heap_alloc_last w _, Nat.le_refl _, Nat.zero_le _, by simp, by simp⟩⟩
    clear h0 h1 h2 h3 h4 h5
    go_enter Try.func61, Try.ntmps61
    go_wp2_with (first | ((with_reducible refine wpList_append_sl (HS0.out) (.tmp 5) (.tmp 6) 24 0 (v := .slice (some ⟨w.heap.size, 0, none⟩) 0 0) (n := 0) (xs := []) ?_ (xv := .slice (some a) l.length cap) (m := l.length) (ys := intRow l) (R := R) ?_ ?_ HUT.out elem_i ?_ ?_ ?_ ?_ ?_); (exact rfl); (exact HV.out); (exact HR.out.below HS0.out.old); (exact rfl); (exact rfl); (exact (one_ints _)); (exact (by have := HL.out; omega))))
    intro v1 w1 hs
    have hs2 : Hp w [.sl v1 3 1 (0 + l.length) ([] ++ intRow l)] w1 := hs
    clear hs HS0
    rw [Nat.zero_add, List.nil_append] at hs2
    have HA := Lib.hid hs2
    clear hs2
    go_wp2_with fail
    go_ret
    exact ⟨_, rfl, HA.out.old, HA.out.own 0 rfl⟩
set_option maxHeartbeats 4000000 in
theorem cloneF_any (l : List Flt) (v : Value) (R : List Rng) (w : World) (hv : SlRd v 6 l.length (fltRow l) R) (hR : RdIn w R) (hl : l.length ≤ 1000) :
    Calls Try.prog 41 #[v] w fun e w' => ∃ u, e = .returned u ∧ Below w.heap.size w w' ∧ w'.ownsRow w.heap.size 29 6 u l.length (fltRow l) := by
  have HV := Lib.hid hv
  have HR := Lib.hid hR
  have HL := Lib.hid hl
  obtain ⟨a, cap, rfl, h1, h2, h3, h4, h5⟩ := hv
  have HUT : Hid (Try.prog.underlying 25 = some (.slice 29)) := Try.underlying25
  have hq : ∀ W, Sem.run Try.prog (binOp .eql 25 (.slice a l.length cap) (.slice none 0 0)) W = .ok (.bool a.isNone) W := fun W => Lib.run_eql_slice_nil W _ _ a l.length cap 0 0 HUT.out
  clear hR hl
  cases a with
  | none =>
    have hq2 : ∀ W, Sem.run Try.prog (binOp .eql 25 (.slice none l.length cap) (.slice none 0 0)) W = .ok (.bool true) W := hq
    have hc := h5 rfl
    have hn : l.length = 0 := by omega
    have HX : Hid (Below w.heap.size w w ∧ w.ownsRow w.heap.size 29 6 (.slice none 0 0) l.length (fltRow l)) := ⟨Below.refl _ _, by rw [hn]; exact ⟨by rw [h1, hn], .inl ⟨rfl, rfl⟩⟩⟩
    clear h1 h2 h3 h4 h5 hq hc
    rw [hn] at hq2
    rw [hn]
    go_enter Try.func41, Try.ntmps41
    go_wp2_with fail
    go_ret
    refine ⟨_, rfl, ?_⟩
    have h := HX.out
    rw [hn] at h
    exact h
  | some a =>
    have h0 := (Hp.start w).put 29 []
    have HS0 : Hid (Hp w [.sl (.slice (some ⟨w.heap.size, 0, none⟩) 0 0) 29 6 0 []] (w.alloc (.cells #[] 29))) :=
      (Hp.start w).addown ((Below.refl _ _).alloc (Nat.le_refl _) _) ⟨by simp, .inr ⟨w.heap.size, 0, #[], rfl, Nat.le_refl _, heap_alloc_last w _, Nat.le_refl _, Nat.zero_le _, by simp, by simp⟩⟩
    clear h0 h1 h2 h3 h4 h5
    go_enter Try.func41, Try.ntmps41
    go_wp2_with (first | ((with_reducible refine wpList_append_sl (HS0.out) (.tmp 5) (.tmp 6) 25 0 (v := .slice (some ⟨w.heap.size, 0, none⟩) 0 0) (n := 0) (xs := []) ?_ (xv := .slice (some a) l.length cap) (m := l.length) (ys := fltRow l) (R := R) ?_ ?_ HUT.out elem_flt ?_ ?_ ?_ ?_ ?_); (exact rfl); (exact HV.out); (exact HR.out.below HS0.out.old); (exact rfl); (exact rfl); (exact (one_flts _)); (exact (by have := HL.out; omega))))
    intro v1 w1 hs
    have hs2 : Hp w [.sl v1 29 6 (0 + l.length) ([] ++ fltRow l)] w1 := hs
    clear hs HS0
    rw [Nat.zero_add, List.nil_append] at hs2
    have HA := Lib.hid hs2
    clear hs2
    go_wp2_with fail
    go_ret
    exact ⟨_, rfl, HA.out.old, HA.out.own 0 rfl⟩
end Go.Proofs.Ythcjkbhkidijoaa
/- the program's copied -/
namespace Go.Proofs.Ythcjkbhkidijoaa
open Go.RowKit
set_option maxRecDepth 20000
set_option linter.unusedSimpArgs false
set_option linter.unusedVariables false

set_option maxHeartbeats 4000000 in
theorem copied_any {p u f : Value} {d : Dv} {R : List Rng} (w : World) (h : DvRd p u f d R) (hR : RdIn w R) (hp : d.pages.length ≤ 1000) (hu : d.unread.length ≤ 1000) (hf : d.faults.length ≤ 1000) :
    Calls Try.prog 39 #[.agg (dvCells p d u f).toArray] w fun e w' => ∃ v, e = .returned v ∧ OwnDv w w' v d := by
  have HC1 : Hid (∀ W, Below w.heap.size w W → Calls Try.prog 60 #[p] W fun e w' => ∃ u, e = .returned u ∧ Below W.heap.size W w' ∧ w'.ownsRow W.heap.size 9 1 u d.pages.length (strRow d.pages)) := fun W hb => cloneS_any d.pages p R W h.pages (hR.below hb) hp
  have HC2 : Hid (∀ W, Below w.heap.size w W → Calls Try.prog 61 #[u] W fun e w' => ∃ u, e = .returned u ∧ Below W.heap.size W w' ∧ w'.ownsRow W.heap.size 3 1 u d.unread.length (intRow d.unread)) := fun W hb => cloneI_any d.unread u R W h.unread (hR.below hb) hu
  have HC3 : Hid (∀ W, Below w.heap.size w W → Calls Try.prog 41 #[f] W fun e w' => ∃ u, e = .returned u ∧ Below W.heap.size W w' ∧ w'.ownsRow W.heap.size 29 6 u d.faults.length (fltRow d.faults)) := fun W hb => cloneF_any d.faults f R W h.faults (hR.below hb) hf
  obtain ⟨fs, hud⟩ := under_dv
  have HUD := Lib.hid hud
  obtain ⟨pa, pc, rfl, _⟩ := h.pages
  obtain ⟨ua, uc, rfl, _⟩ := h.unread
  obtain ⟨fa, fc, rfl, _⟩ := h.faults
  clear h hR hp hu hf hud
  have h1 := ((Hp.start w).put 27 (dvCells (.slice pa d.pages.length pc) d (.slice ua d.unread.length uc) (.slice fa d.faults.length fc))).put 27 (dvCells nilS dvNil nilS nilS)
  simp only [World.size_alloc, List.nil_append, List.cons_append] at h1
  have HS0 : Hid (Hp w [.ob w.heap.size 27 (dvCells (.slice pa d.pages.length pc) d (.slice ua d.unread.length uc) (.slice fa d.faults.length fc)), .ob (w.heap.size + 1) 27 (dvCells nilS dvNil nilS nilS)] ((w.alloc (.cells #[.slice pa d.pages.length pc, .int .i64 d.writes, .slice ua d.unread.length uc, .bool d.dead, .slice fa d.faults.length fc] 27)).alloc (.cells #[.slice none 0 0, .int .i64 0, .slice none 0 0, .bool false, .slice none 0 0] 27))) := h1
  clear h1
  show Calls Try.prog 39 #[.agg #[.slice pa d.pages.length pc, .int .i64 d.writes, .slice ua d.unread.length uc, .bool d.dead, .slice fa d.faults.length fc]] w _
  go_enter Try.func39, Try.ntmps39
  go_wp2_with fail
  refine (HC1.out _ HS0.out.old).mono ?_
  rintro e w1 ⟨v, rfl, hb, ho⟩
  obtain ⟨a1, c1, rfl⟩ := own_slice ho
  have HA1 : Hid (Hp w [.ob w.heap.size 27 (dvCells (.slice pa d.pages.length pc) d (.slice ua d.unread.length uc) (.slice fa d.faults.length fc)), .ob (w.heap.size + 1) 27 (dvCells nilS dvNil nilS nilS), .sl (.slice a1 d.pages.length c1) 9 1 d.pages.length (strRow d.pages)] w1) := HS0.out.addown hb ho
  clear hb ho HS0 HC1
  have k0 : w1.cell? ⟨w.heap.size, 0, none⟩ = some (.slice pa d.pages.length pc) := HA1.out.at 0 rfl 0 rfl
  have z0 : w1.frozen? ⟨w.heap.size, 0, none⟩ = false := HA1.out.frozen 0 rfl 0
  have HB1 : Hid (Hp w [.ob w.heap.size 27 (dvCells (.slice a1 d.pages.length c1) d (.slice ua d.unread.length uc) (.slice fa d.faults.length fc)), .ob (w.heap.size + 1) 27 (dvCells nilS dvNil nilS nilS), .sl (.slice a1 d.pages.length c1) 9 1 d.pages.length (strRow d.pages)] (w1.setCell ⟨w.heap.size, 0, none⟩ (.slice a1 d.pages.length c1))) := HA1.out.set 0 rfl 0 (.slice a1 d.pages.length c1)
  have m0 : (w1.setCell ⟨w.heap.size, 0, none⟩ (.slice a1 d.pages.length c1)).cell? ⟨w.heap.size, 2, none⟩ = some (.slice ua d.unread.length uc) := HB1.out.at 0 rfl 2 rfl
  go_wp2_with fail
  refine (HC2.out _ HB1.out.old).mono ?_
  rintro e w2 ⟨v, rfl, hb, ho⟩
  obtain ⟨a2, c2, rfl⟩ := own_slice ho
  have HA2 : Hid (Hp w [.ob w.heap.size 27 (dvCells (.slice a1 d.pages.length c1) d (.slice ua d.unread.length uc) (.slice fa d.faults.length fc)), .ob (w.heap.size + 1) 27 (dvCells nilS dvNil nilS nilS), .sl (.slice a1 d.pages.length c1) 9 1 d.pages.length (strRow d.pages), .sl (.slice a2 d.unread.length c2) 3 1 d.unread.length (intRow d.unread)] w2) := HB1.out.addown hb ho
  clear hb ho HB1 HC2
  have k1 : w2.cell? ⟨w.heap.size, 2, none⟩ = some (.slice ua d.unread.length uc) := HA2.out.at 0 rfl 2 rfl
  have z1 : w2.frozen? ⟨w.heap.size, 2, none⟩ = false := HA2.out.frozen 0 rfl 2
  have HB2 : Hid (Hp w [.ob w.heap.size 27 (dvCells (.slice a1 d.pages.length c1) d (.slice a2 d.unread.length c2) (.slice fa d.faults.length fc)), .ob (w.heap.size + 1) 27 (dvCells nilS dvNil nilS nilS), .sl (.slice a1 d.pages.length c1) 9 1 d.pages.length (strRow d.pages), .sl (.slice a2 d.unread.length c2) 3 1 d.unread.length (intRow d.unread)] (w2.setCell ⟨w.heap.size, 2, none⟩ (.slice a2 d.unread.length c2))) := HA2.out.set 0 rfl 2 (.slice a2 d.unread.length c2)
  have m1 : (w2.setCell ⟨w.heap.size, 2, none⟩ (.slice a2 d.unread.length c2)).cell? ⟨w.heap.size, 4, none⟩ = some (.slice fa d.faults.length fc) := HB2.out.at 0 rfl 4 rfl
  go_wp2_with fail
  refine (HC3.out _ HB2.out.old).mono ?_
  rintro e w3 ⟨v, rfl, hb, ho⟩
  obtain ⟨a3, c3, rfl⟩ := own_slice ho
  have HA3 : Hid (Hp w [.ob w.heap.size 27 (dvCells (.slice a1 d.pages.length c1) d (.slice a2 d.unread.length c2) (.slice fa d.faults.length fc)), .ob (w.heap.size + 1) 27 (dvCells nilS dvNil nilS nilS), .sl (.slice a1 d.pages.length c1) 9 1 d.pages.length (strRow d.pages), .sl (.slice a2 d.unread.length c2) 3 1 d.unread.length (intRow d.unread), .sl (.slice a3 d.faults.length c3) 29 6 d.faults.length (fltRow d.faults)] w3) := HB2.out.addown hb ho
  clear hb ho HB2 HC3
  have k2 : w3.cell? ⟨w.heap.size, 4, none⟩ = some (.slice fa d.faults.length fc) := HA3.out.at 0 rfl 4 rfl
  have z2 : w3.frozen? ⟨w.heap.size, 4, none⟩ = false := HA3.out.frozen 0 rfl 4
  have HB3 : Hid (Hp w [.ob w.heap.size 27 (dvCells (.slice a1 d.pages.length c1) d (.slice a2 d.unread.length c2) (.slice a3 d.faults.length c3)), .ob (w.heap.size + 1) 27 (dvCells nilS dvNil nilS nilS), .sl (.slice a1 d.pages.length c1) 9 1 d.pages.length (strRow d.pages), .sl (.slice a2 d.unread.length c2) 3 1 d.unread.length (intRow d.unread), .sl (.slice a3 d.faults.length c3) 29 6 d.faults.length (fltRow d.faults)] (w3.setCell ⟨w.heap.size, 4, none⟩ (.slice a3 d.faults.length c3))) := HA3.out.set 0 rfl 4 (.slice a3 d.faults.length c3)
  go_wp2_with (first | ((with_reducible refine wpList_load_ob 27 (.tmp 1) w.heap.size (dvCells (.slice a1 d.pages.length c1) d (.slice a2 d.unread.length c2) (.slice a3 d.faults.length c3)) 27 HUD.out ?_ ?_ ?_ ?_ ?_); (exact rfl); (exact HB3.out.get 0 rfl); (exact rfl); (exact info_dv); simp only [Act.put, List.setIfInBounds_toArray, List.set_cons_zero, List.set_cons_succ]) | ((with_reducible refine wpList_store_ob 27 (.tmp 2) (w.heap.size + 1) (dvCells (.slice a1 d.pages.length c1) d (.slice a2 d.unread.length c2) (.slice a3 d.faults.length c3)) (dvCells nilS dvNil nilS nilS) 27 ?_ ?_ ?_ ?_ ?_ ?_ ?_); (exact rfl); (exact rfl); (exact HB3.out.get 1 rfl); (exact info_dv); (exact rfl); (exact (oneCell_dv _ _ _ _ _ _ _ _ _ _)); skip))
  have HC : Hid (Hp w [.ob w.heap.size 27 (dvCells (.slice a1 d.pages.length c1) d (.slice a2 d.unread.length c2) (.slice a3 d.faults.length c3)), .ob (w.heap.size + 1) 27 (dvCells (.slice a1 d.pages.length c1) d (.slice a2 d.unread.length c2) (.slice a3 d.faults.length c3)), .sl (.slice a1 d.pages.length c1) 9 1 d.pages.length (strRow d.pages), .sl (.slice a2 d.unread.length c2) 3 1 d.unread.length (intRow d.unread), .sl (.slice a3 d.faults.length c3) 29 6 d.faults.length (fltRow d.faults)] ((w3.setCell ⟨w.heap.size, 4, none⟩ (.slice a3 d.faults.length c3)).setRow (w.heap.size + 1) (dvCells (.slice a1 d.pages.length c1) d (.slice a2 d.unread.length c2) (.slice a3 d.faults.length c3)).toArray)) := HB3.out.row 1 rfl (dvCells (.slice a1 d.pages.length c1) d (.slice a2 d.unread.length c2) (.slice a3 d.faults.length c3))
  refine bodyPost_ret (results_ob Try.results39 _ _ (w.heap.size + 1) (dvCells (.slice a1 d.pages.length c1) d (.slice a2 d.unread.length c2) (.slice a3 d.faults.length c3)) 27 _ rfl (HC.out.get 1 rfl) HUD.out rfl info_dv) rfl ?_
  exact ⟨_, rfl, (.slice a1 d.pages.length c1), (.slice a2 d.unread.length c2), (.slice a3 d.faults.length c3), rfl, HC.out.pull [2, 3, 4] rfl (pull_nd HC.out.nd [2, 3, 4] rfl (by decide))⟩
end Go.Proofs.Ythcjkbhkidijoaa
/- the walk of the reference's Inject -/
namespace Go.Proofs.Ythcjkbhkidijoaa
open Go.RowKit
set_option maxRecDepth 20000

/-- what a callee made, beside what the walk has -/
theorem Hp.join {w W W' : World} {L M : List Th} (h : Hp w L W) (k : Hp W M W') (hM : ∀ y ∈ M, y.reads = [] ∧ ∀ C, y ≠ .cd C) : Hp w (L ++ M) W' := by
  have h' := h.calls k.old
  refine ⟨h'.old, fun x hx => ?_, ?_⟩
  · rcases List.mem_append.1 hx with hx | hx
    · exact h'.all x hx
    · have hk := k.all x hx
      cases x with
      | ob b t cs => exact ⟨Nat.le_trans h.old.size hk.1, hk.2⟩
      | sl v e z n xs =>
        refine ⟨hk.1, ?_⟩
        rcases hk.2 with h0 | ⟨g, cap, cur, hv, hB, hr⟩
        · exact .inl h0
        · exact .inr ⟨g, cap, cur, hv, Nat.le_trans h.old.size hB, hr⟩
      | cd C => exact absurd rfl ((hM _ hx).2 C)
      | rd R => exact hk
  · rw [List.pairwise_append]
    refine ⟨h.nd, k.nd, fun a ha b hb => ⟨fun c hac => ⟨fun hbc => ?_, fun hr => ?_⟩, fun c hbc har => ?_⟩⟩
    · have h1 := ((h.all a ha).from hac).2
      have h2 := ((k.all b hb).from hbc).1
      omega
    · rw [(hM b hb).1] at hr
      cases hr
    · have h1 := (h.all a ha).reads_lt har
      have h2 := ((k.all b hb).from hbc).1
      omega
theorem three_sl {a b c : Th} (ha : a.reads = [] ∧ ∀ C, a ≠ .cd C) (hb : b.reads = [] ∧ ∀ C, b ≠ .cd C) (hc : c.reads = [] ∧ ∀ C, c ≠ .cd C) : ∀ y ∈ [a, b, c], y.reads = [] ∧ ∀ C, y ≠ .cd C := by
  intro y hy
  simp only [List.mem_cons, List.not_mem_nil, or_false] at hy
  rcases hy with rfl | rfl | rfl
  · exact ha
  · exact hb
  · exact hc
theorem sl_plain (v : Value) (e : TypeId) (z n : Nat) (xs : List Value) : (Th.sl v e z n xs).reads = [] ∧ ∀ C, Th.sl v e z n xs ≠ .cd C := ⟨rfl, fun C h => by cases h⟩
/-- three slices of the walk's own read as a device -/
theorem own_dv {B : Nat} {W : World} {p u f : Value} {d : Dv} (hp : W.ownsRow B 9 1 p d.pages.length (strRow d.pages)) (hu : W.ownsRow B 3 1 u d.unread.length (intRow d.unread)) (hf : W.ownsRow B 29 6 f d.faults.length (fltRow d.faults)) :
    ∃ R, DvRd p u f d R ∧ RdIn W R ∧ ∀ r ∈ R, B ≤ r.1 := by
  obtain ⟨R1, a1, b1, c1⟩ := own_reads hp
  obtain ⟨R2, a2, b2, c2⟩ := own_reads hu
  obtain ⟨R3, a3, b3, c3⟩ := own_reads hf
  refine ⟨R1 ++ (R2 ++ R3), ⟨a1.mono (by simp +contextual), a2.mono (by simp +contextual), a3.mono (by simp +contextual)⟩, b1.append (b2.append b3), fun r hr => ?_⟩
  rcases List.mem_append.1 hr with h | h
  · exact (c1 r h).1
  · rcases List.mem_append.1 h with h | h
    · exact (c2 r h).1
    · exact (c3 r h).1
theorem one_flt (x : Flt) : ∀ u ∈ fltCells x, u.oneCell' = true := by
  intro u hu
  simp only [fltCells, List.mem_cons, List.not_mem_nil, or_false] at hu
  rcases hu with rfl | rfl | rfl | rfl | rfl | rfl <;> rfl
theorem fltRow_snoc (l : List Flt) (x : Flt) : fltRow (l ++ [x]) = fltRow l ++ ([fltCells x] : List (List Value)).flatMap id := by
  unfold fltRow
  rw [List.flatMap_append]
  rfl
set_option linter.unusedSimpArgs false in
set_option maxHeartbeats 8000000 in
theorem rinject_any {p u f : Value} {d : Dv} {R : List Rng} (x : Flt) (w : World) (h : DvRd p u f d R) (hR : RdIn w R) (hg : GoodDv d) (hx : GoodFlt x) (hp : d.pages.length ≤ 1000) (hf : d.faults.length ≤ 1000) :
    Calls Try.prog 26 #[.agg (dvCells p d u f).toArray, .agg (fltCells x).toArray] w (DvPost w R (injectR d x)) := by
  have HV : Hid (∀ W, Below w.heap.size w W → Calls Try.prog 23 #[.agg (dvCells p d u f).toArray] W fun e w' => e = .returned (.bool (dvOkB d)) ∧ Below W.heap.size W w') := fun W hb => rvalid_any W h (hR.below hb) hg.faults hg.pages hg.unread
  have HCp : Hid (∀ W, Below w.heap.size w W → Calls Try.prog 36 #[.agg (dvCells p d u f).toArray] W fun e w' => ∃ v, e = .returned v ∧ OwnDv W w' v d) := fun W hb => copy_any W h (hR.below hb) hp hg.unread hf
  have HLf := Lib.hid hf
  obtain ⟨fs, hud⟩ := under_dv
  have HUD := Lib.hid hud
  obtain ⟨fs2, huf⟩ := under_flt
  have HUF := Lib.hid huf
  have HUX : Hid (Try.prog.underlying 25 = some (.slice 29)) := Try.underlying25
  clear hud huf hp
  obtain ⟨pa, pc, rfl, p1, _, p2⟩ := h.pages.open hR
  obtain ⟨ua, uc, rfl, u1, _, u2⟩ := h.unread.open hR
  obtain ⟨fa, fc, rfl, f1, _, f2⟩ := h.faults.open hR
  have HFl : Hid (∀ W, Calls Try.prog 53 #[.agg (dvCells (.slice pa d.pages.length pc) d (.slice ua d.unread.length uc) (.slice fa d.faults.length fc)).toArray, .agg (fltCells x).toArray] W fun e w' => e = .returned (.bool (fltOkB d.pages.length d.writes x)) ∧ Below W.heap.size W w') := fun W => rfault_any pa d.pages.length pc d.writes _ d.dead _ x W hx
  clear h hR hg p2 u2 f2 hx hf
  have h1 := (((Hp.start w).put 27 (dvCells (.slice pa d.pages.length pc) d (.slice ua d.unread.length uc) (.slice fa d.faults.length fc))).put 29 (fltCells x)).put 27 (dvCells nilS dvNil nilS nilS)
  simp only [World.size_alloc, List.nil_append, List.cons_append] at h1
  have HS0 : Hid (Hp w [.ob w.heap.size 27 (dvCells (.slice pa d.pages.length pc) d (.slice ua d.unread.length uc) (.slice fa d.faults.length fc)), .ob (w.heap.size + 1) 29 (fltCells x), .ob (w.heap.size + 1 + 1) 27 (dvCells nilS dvNil nilS nilS)] (((w.alloc (.cells (dvCells (.slice pa d.pages.length pc) d (.slice ua d.unread.length uc) (.slice fa d.faults.length fc)).toArray 27)).alloc (.cells (fltCells x).toArray 29)).alloc (.cells #[.slice none 0 0, .int .i64 0, .slice none 0 0, .bool false, .slice none 0 0] 27))) := h1
  clear h1
  go_enter Try.func26, Try.ntmps26
  go_wp2_with (first | ((with_reducible refine wpList_load_ob 27 (.tmp 2) (w.heap.size) (dvCells (.slice pa d.pages.length pc) d (.slice ua d.unread.length uc) (.slice fa d.faults.length fc)) 27 HUD.out ?_ ?_ ?_ ?_ ?_); (exact rfl); (exact (HS0.out).get 0 rfl); (exact rfl); (exact info_dv); simp only [Act.put, List.setIfInBounds_toArray, List.set_cons_zero, List.set_cons_succ]))
  refine (HV.out _ (HS0.out).old).mono ?_
  rintro e w3 ⟨rfl, hb⟩
  have HS2 : Hid (Hp w [.ob (w.heap.size) 27 (dvCells (.slice pa d.pages.length pc) d (.slice ua d.unread.length uc) (.slice fa d.faults.length fc)), .ob ((w.heap.size + 1)) 29 (fltCells x), .ob ((w.heap.size + 1 + 1)) 27 (dvCells nilS dvNil nilS nilS)] w3) := (HS0.out).calls hb
  clear hb
  clear HS0
  generalize (w.heap.size + 1 + 1) = B1 at *
  generalize (w.heap.size + 1) = B2 at *
  clear HV
  cases hv : dvOkB d
  case false =>
    have HX : Hid (dvOkB d = false) := hv
    clear hv
    go_wp2_with (first | ((with_reducible refine wpList_build_v 27 (.agg (dvCells nilS dvNil nilS nilS).toArray) ?_ ?_); (intro W; simp only [List.map_toArray, List.map_cons, List.map_nil]; exact build_dv0 W); simp only [Act.put, List.setIfInBounds_toArray, List.set_cons_zero, List.set_cons_succ]) | ((with_reducible refine wpList_store_ob 27 (.tmp 4) B1 (dvCells nilS dvNil nilS nilS) (dvCells nilS dvNil nilS nilS) 27 ?_ ?_ ?_ ?_ ?_ ?_ ?_); (exact rfl); (exact rfl); (exact (HS2.out).get 2 rfl); (exact info_dv); (exact rfl); (exact (oneCell_dv _ _ _ _ _ _ _ _ _ _)); skip))
    have HS3 : Hid (Hp w [.ob (w.heap.size) 27 (dvCells (.slice pa d.pages.length pc) d (.slice ua d.unread.length uc) (.slice fa d.faults.length fc)), .ob B2 29 (fltCells x), .ob B1 27 (dvCells nilS dvNil nilS nilS)] (w3.setRow B1 (dvCells nilS dvNil nilS nilS).toArray)) := (HS2.out).row 2 rfl (dvCells nilS dvNil nilS nilS)
    clear HS2
    generalize (w3.setRow B1 (dvCells nilS dvNil nilS nilS).toArray) = w4 at *
    refine bodyPost_ret (results_ob_tmp Try.results26 _ _ B1 (dvCells nilS dvNil nilS nilS) 27 _ rfl (HS3.out.get 2 rfl) HUD.out rfl info_dv) rfl ?_
    exact DvPost.none (by unfold injectR; rw [if_pos HX.out]) HS3.out.old
  case true =>
    have HX : Hid (¬ dvOkB d = false) := by show ¬ _; rw [hv]; decide
    clear hv
    go_wp2_with (first | ((with_reducible refine wpList_load_ob 27 (.tmp 2) (w.heap.size) (dvCells (.slice pa d.pages.length pc) d (.slice ua d.unread.length uc) (.slice fa d.faults.length fc)) 27 HUD.out ?_ ?_ ?_ ?_ ?_); (exact rfl); (exact (HS2.out).get 0 rfl); (exact rfl); (exact info_dv); simp only [Act.put, List.setIfInBounds_toArray, List.set_cons_zero, List.set_cons_succ]) | ((with_reducible refine wpList_load_ob 29 (.tmp 3) B2 (fltCells x) 29 HUF.out ?_ ?_ ?_ ?_ ?_); (exact rfl); (exact (HS2.out).get 1 rfl); (exact rfl); (exact info_flt); simp only [Act.put, List.setIfInBounds_toArray, List.set_cons_zero, List.set_cons_succ]))
    refine (HFl.out _).mono ?_
    rintro e w4 ⟨rfl, hb⟩
    have HS3 : Hid (Hp w [.ob (w.heap.size) 27 (dvCells (.slice pa d.pages.length pc) d (.slice ua d.unread.length uc) (.slice fa d.faults.length fc)), .ob B2 29 (fltCells x), .ob B1 27 (dvCells nilS dvNil nilS nilS)] w4) := (HS2.out).calls hb
    clear hb
    clear HS2
    clear HFl
    cases hv : fltOkB d.pages.length d.writes x
    case false =>
      have HY : Hid (fltOkB d.pages.length d.writes x = false) := hv
      clear hv
      go_wp2_with (first | ((with_reducible refine wpList_build_v 27 (.agg (dvCells nilS dvNil nilS nilS).toArray) ?_ ?_); (intro W; simp only [List.map_toArray, List.map_cons, List.map_nil]; exact build_dv0 W); simp only [Act.put, List.setIfInBounds_toArray, List.set_cons_zero, List.set_cons_succ]) | ((with_reducible refine wpList_store_ob 27 (.tmp 4) B1 (dvCells nilS dvNil nilS nilS) (dvCells nilS dvNil nilS nilS) 27 ?_ ?_ ?_ ?_ ?_ ?_ ?_); (exact rfl); (exact rfl); (exact (HS3.out).get 2 rfl); (exact info_dv); (exact rfl); (exact (oneCell_dv _ _ _ _ _ _ _ _ _ _)); skip))
      have HS4 : Hid (Hp w [.ob (w.heap.size) 27 (dvCells (.slice pa d.pages.length pc) d (.slice ua d.unread.length uc) (.slice fa d.faults.length fc)), .ob B2 29 (fltCells x), .ob B1 27 (dvCells nilS dvNil nilS nilS)] (w4.setRow B1 (dvCells nilS dvNil nilS nilS).toArray)) := (HS3.out).row 2 rfl (dvCells nilS dvNil nilS nilS)
      clear HS3
      generalize (w4.setRow B1 (dvCells nilS dvNil nilS nilS).toArray) = w5 at *
      refine bodyPost_ret (results_ob_tmp Try.results26 _ _ B1 (dvCells nilS dvNil nilS nilS) 27 _ rfl (HS4.out.get 2 rfl) HUD.out rfl info_dv) rfl ?_
      exact DvPost.none (by unfold injectR; rw [if_neg HX.out, if_pos HY.out]) HS4.out.old
    case true =>
      have HY : Hid (¬ fltOkB d.pages.length d.writes x = false) := by show ¬ _; rw [hv]; decide
      clear hv
      have b4 : w4.cell? ⟨w.heap.size, 4, none⟩ = some (.slice fa d.faults.length fc) := (HS3.out).at 0 rfl 4 rfl
      by_cases hq : d.faults.length = 64
      case pos =>
        have HZ := Lib.hid hq
        have hqb : ((d.faults.length : Int) == 64) = true := by rw [hq]; rfl
        clear hq
        go_wp2_with (first | ((with_reducible refine wpList_build_v 27 (.agg (dvCells nilS dvNil nilS nilS).toArray) ?_ ?_); (intro W; simp only [List.map_toArray, List.map_cons, List.map_nil]; exact build_dv0 W); simp only [Act.put, List.setIfInBounds_toArray, List.set_cons_zero, List.set_cons_succ]) | ((with_reducible refine wpList_store_ob 27 (.tmp 4) B1 (dvCells nilS dvNil nilS nilS) (dvCells nilS dvNil nilS nilS) 27 ?_ ?_ ?_ ?_ ?_ ?_ ?_); (exact rfl); (exact rfl); (exact (HS3.out).get 2 rfl); (exact info_dv); (exact rfl); (exact (oneCell_dv _ _ _ _ _ _ _ _ _ _)); skip))
        have HS4 : Hid (Hp w [.ob (w.heap.size) 27 (dvCells (.slice pa d.pages.length pc) d (.slice ua d.unread.length uc) (.slice fa d.faults.length fc)), .ob B2 29 (fltCells x), .ob B1 27 (dvCells nilS dvNil nilS nilS)] (w4.setRow B1 (dvCells nilS dvNil nilS nilS).toArray)) := (HS3.out).row 2 rfl (dvCells nilS dvNil nilS nilS)
        clear HS3
        generalize (w4.setRow B1 (dvCells nilS dvNil nilS nilS).toArray) = w5 at *
        refine bodyPost_ret (results_ob_tmp Try.results26 _ _ B1 (dvCells nilS dvNil nilS nilS) 27 _ rfl (HS4.out.get 2 rfl) HUD.out rfl info_dv) rfl ?_
        exact DvPost.none (by unfold injectR; rw [if_neg HX.out, if_neg HY.out, if_pos HZ.out]) HS4.out.old
      case neg =>
        have HZ := Lib.hid hq
        have hqb : ((d.faults.length : Int) == 64) = false := by rw [beq_eq_false_iff_ne]; omega
        clear hq
        go_wp2_with (first | ((with_reducible refine wpList_load_ob 27 (.tmp 2) (w.heap.size) (dvCells (.slice pa d.pages.length pc) d (.slice ua d.unread.length uc) (.slice fa d.faults.length fc)) 27 HUD.out ?_ ?_ ?_ ?_ ?_); (exact rfl); (exact (HS3.out).get 0 rfl); (exact rfl); (exact info_dv); simp only [Act.put, List.setIfInBounds_toArray, List.set_cons_zero, List.set_cons_succ]))
        refine (HCp.out _ (HS3.out).old).mono ?_
        rintro e w20 ⟨v, rfl, p', u', f', rfl, hk⟩
        obtain ⟨a1, c1, rfl⟩ := own_slice (hk.own 0 rfl)
        obtain ⟨a2, c2, rfl⟩ := own_slice (hk.own 1 rfl)
        obtain ⟨a3, c3, rfl⟩ := own_slice (hk.own 2 rfl)
        have HS4 : Hid (Hp w [.ob (w.heap.size) 27 (dvCells (.slice pa d.pages.length pc) d (.slice ua d.unread.length uc) (.slice fa d.faults.length fc)), .ob B2 29 (fltCells x), .ob B1 27 (dvCells nilS dvNil nilS nilS), .sl ((.slice a1 d.pages.length c1)) 9 1 (d.pages.length) (strRow d.pages), .sl ((.slice a2 d.unread.length c2)) 3 1 (d.unread.length) (intRow d.unread), .sl ((.slice a3 d.faults.length c3)) 29 6 (d.faults.length) (fltRow d.faults)] w20) := (HS3.out).join hk (three_sl (sl_plain _ _ _ _ _) (sl_plain _ _ _ _ _) (sl_plain _ _ _ _ _))
        clear HS3
        clear HCp b4 hk
        have b4 : (((w20.alloc (.cells (dvCells nilS dvNil nilS nilS).toArray 27)).setRow (w20.heap.size) (dvCells (.slice a1 d.pages.length c1) d (.slice a2 d.unread.length c2) (.slice a3 d.faults.length c3)).toArray)).cell? ⟨(w20.heap.size), 4, none⟩ = some (.slice a3 d.faults.length c3) := (((HS4.out).put 27 (dvCells nilS dvNil nilS nilS)).row 6 rfl (dvCells (.slice a1 d.pages.length c1) d (.slice a2 d.unread.length c2) (.slice a3 d.faults.length c3))).at 6 rfl 4 rfl
        go_wp2_with (first | ((with_reducible refine wpList_alloc_ob 27 (dvCells nilS dvNil nilS nilS) ?_ ?_); (exact alloc_dv); simp only [Act.put, List.setIfInBounds_toArray, List.set_cons_zero, List.set_cons_succ]) | ((with_reducible refine wpList_store_ob 27 (.tmp 6) (w20.heap.size) (dvCells (.slice a1 d.pages.length c1) d (.slice a2 d.unread.length c2) (.slice a3 d.faults.length c3)) (dvCells nilS dvNil nilS nilS) 27 ?_ ?_ ?_ ?_ ?_ ?_ ?_); (exact rfl); (exact rfl); (exact ((HS4.out).put 27 (dvCells nilS dvNil nilS nilS)).get 6 rfl); (exact info_dv); (exact rfl); (exact (oneCell_dv _ _ _ _ _ _ _ _ _ _)); skip) | ((with_reducible refine wpList_load_ob 29 (.tmp 3) B2 (fltCells x) 29 HUF.out ?_ ?_ ?_ ?_ ?_); (exact rfl); (exact (((HS4.out).put 27 (dvCells nilS dvNil nilS nilS)).row 6 rfl (dvCells (.slice a1 d.pages.length c1) d (.slice a2 d.unread.length c2) (.slice a3 d.faults.length c3))).get 1 rfl); (exact rfl); (exact info_flt); simp only [Act.put, List.setIfInBounds_toArray, List.set_cons_zero, List.set_cons_succ]) | ((with_reducible refine wpList_build_obs 25 1 elem_flt HUX.out [fltCells x] ?_ ?_ ?_ ?_ ?_ ?_); (exact (List.forall_mem_cons.2 ⟨rfl, (fun _ h => absurd h List.not_mem_nil)⟩)); (exact Nat.succ_pos _); (simp only [List.length_cons, List.length_nil]; omega); (exact rfl); (simp only [List.map_toArray, List.map_cons, List.map_nil, List.zipIdx_cons, List.zipIdx_nil]; exact rfl); simp only [Act.put, List.setIfInBounds_toArray, List.set_cons_zero, List.set_cons_succ]) | ((with_reducible refine wpList_append_hp ((((HS4.out).put 27 (dvCells nilS dvNil nilS nilS)).row 6 rfl (dvCells (.slice a1 d.pages.length c1) d (.slice a2 d.unread.length c2) (.slice a3 d.faults.length c3))).put 29 (([fltCells x] : List (List Value)).flatMap id)) (.tmp 27) (.tmp 29) 25 5 (v := (.slice a3 d.faults.length c3)) (e := 29) (z := 6) (n := d.faults.length) (xs := fltRow d.faults) ?_ 7 (b := (((w20.alloc (.cells (dvCells nilS dvNil nilS nilS).toArray 27)).setRow (w20.heap.size) (dvCells (.slice a1 d.pages.length c1) d (.slice a2 d.unread.length c2) (.slice a3 d.faults.length c3)).toArray).heap.size)) (t' := 29) (ys := ([fltCells x] : List (List Value)).flatMap id) ?_ HUX.out elem_flt 1 1 ?_ ?_ ?_ ?_ ?_ ?_); (exact rfl); (exact rfl); (exact rfl); (exact rfl); (exact rfl); (exact (one_flt x)); (exact (by have := HLf.out; omega))))
        intro v21 w21 hs hnil
        have HS6 : Hid (Hp w [.ob (w.heap.size) 27 (dvCells (.slice pa d.pages.length pc) d (.slice ua d.unread.length uc) (.slice fa d.faults.length fc)), .ob B2 29 (fltCells x), .ob B1 27 (dvCells nilS dvNil nilS nilS), .sl ((.slice a1 d.pages.length c1)) 9 1 (d.pages.length) (strRow d.pages), .sl ((.slice a2 d.unread.length c2)) 3 1 (d.unread.length) (intRow d.unread), .sl v21 29 6 (d.faults.length + 1) ((fltRow d.faults) ++ (([fltCells x] : List (List Value)).flatMap id)), .ob (w20.heap.size) 27 (dvCells (.slice a1 d.pages.length c1) d (.slice a2 d.unread.length c2) (.slice a3 d.faults.length c3)), .ob (((w20.alloc (.cells (dvCells nilS dvNil nilS nilS).toArray 27)).setRow (w20.heap.size) (dvCells (.slice a1 d.pages.length c1) d (.slice a2 d.unread.length c2) (.slice a3 d.faults.length c3)).toArray).heap.size) 29 (([fltCells x] : List (List Value)).flatMap id)] w21) := hs
        clear hs
        clear HS4
        generalize ((w20.alloc (.cells (dvCells nilS dvNil nilS nilS).toArray 27)).setRow (w20.heap.size) (dvCells (.slice a1 d.pages.length c1) d (.slice a2 d.unread.length c2) (.slice a3 d.faults.length c3)).toArray).heap.size = B3 at *
        generalize w20.heap.size = B4 at *
        obtain ⟨a4, c4, rfl⟩ := own_slice (HS6.out.own 5 rfl)
        have b4 : w21.cell? ⟨B4, 4, none⟩ = some (.slice a3 d.faults.length c3) := HS6.out.at 6 rfl 4 rfl
        have f4 : w21.frozen? ⟨B4, 4, none⟩ = false := HS6.out.frozen 6 rfl 4
        have HS40 : Hid (Hp w [.ob (w.heap.size) 27 (dvCells (.slice pa d.pages.length pc) d (.slice ua d.unread.length uc) (.slice fa d.faults.length fc)), .ob B2 29 (fltCells x), .ob B1 27 (dvCells nilS dvNil nilS nilS), .sl ((.slice a1 d.pages.length c1)) 9 1 (d.pages.length) (strRow d.pages), .sl ((.slice a2 d.unread.length c2)) 3 1 (d.unread.length) (intRow d.unread), .sl ((.slice a4 (d.faults.length + 1) c4)) 29 6 (d.faults.length + 1) ((fltRow d.faults) ++ (([fltCells x] : List (List Value)).flatMap id)), .ob B4 27 (dvCells (.slice a1 d.pages.length c1) d (.slice a2 d.unread.length c2) (.slice a4 (d.faults.length + 1) c4)), .ob B3 29 (([fltCells x] : List (List Value)).flatMap id)] (w21.setCell ⟨B4, 4, none⟩ (.slice a4 (d.faults.length + 1) c4))) := (HS6.out).set 6 rfl 4 (.slice a4 (d.faults.length + 1) c4)
        go_wp2_with (first | ((with_reducible refine wpList_load_ob 27 (.tmp 6) B4 (dvCells (.slice a1 d.pages.length c1) d (.slice a2 d.unread.length c2) (.slice a4 (d.faults.length + 1) c4)) 27 HUD.out ?_ ?_ ?_ ?_ ?_); (exact rfl); (exact (HS40.out).get 6 rfl); (exact rfl); (exact info_dv); simp only [Act.put, List.setIfInBounds_toArray, List.set_cons_zero, List.set_cons_succ]) | ((with_reducible refine wpList_store_ob 27 (.tmp 4) B1 (dvCells (.slice a1 d.pages.length c1) d (.slice a2 d.unread.length c2) (.slice a4 (d.faults.length + 1) c4)) (dvCells nilS dvNil nilS nilS) 27 ?_ ?_ ?_ ?_ ?_ ?_ ?_); (exact rfl); (exact rfl); (exact (HS40.out).get 2 rfl); (exact info_dv); (exact rfl); (exact (oneCell_dv _ _ _ _ _ _ _ _ _ _)); skip))
        have HS7 : Hid (Hp w [.ob (w.heap.size) 27 (dvCells (.slice pa d.pages.length pc) d (.slice ua d.unread.length uc) (.slice fa d.faults.length fc)), .ob B2 29 (fltCells x), .ob B1 27 (dvCells (.slice a1 d.pages.length c1) d (.slice a2 d.unread.length c2) (.slice a4 (d.faults.length + 1) c4)), .sl ((.slice a1 d.pages.length c1)) 9 1 (d.pages.length) (strRow d.pages), .sl ((.slice a2 d.unread.length c2)) 3 1 (d.unread.length) (intRow d.unread), .sl ((.slice a4 (d.faults.length + 1) c4)) 29 6 (d.faults.length + 1) ((fltRow d.faults) ++ (([fltCells x] : List (List Value)).flatMap id)), .ob B4 27 (dvCells (.slice a1 d.pages.length c1) d (.slice a2 d.unread.length c2) (.slice a4 (d.faults.length + 1) c4)), .ob B3 29 (([fltCells x] : List (List Value)).flatMap id)] ((w21.setCell ⟨B4, 4, none⟩ (.slice a4 (d.faults.length + 1) c4)).setRow B1 (dvCells (.slice a1 d.pages.length c1) d (.slice a2 d.unread.length c2) (.slice a4 (d.faults.length + 1) c4)).toArray)) := (HS40.out).row 2 rfl (dvCells (.slice a1 d.pages.length c1) d (.slice a2 d.unread.length c2) (.slice a4 (d.faults.length + 1) c4))
        clear HS6
        generalize ((w21.setCell ⟨B4, 4, none⟩ (.slice a4 (d.faults.length + 1) c4)).setRow B1 (dvCells (.slice a1 d.pages.length c1) d (.slice a2 d.unread.length c2) (.slice a4 (d.faults.length + 1) c4)).toArray) = w22 at *
        refine bodyPost_ret (results_ob_tmp Try.results26 _ _ B1 (dvCells (.slice a1 d.pages.length c1) d (.slice a2 d.unread.length c2) (.slice a4 (d.faults.length + 1) c4)) 27 _ rfl (HS7.out.get 2 rfl) HUD.out rfl info_dv) rfl ?_
        have hfo : _ := HS7.out.own 5 rfl
        obtain ⟨R', hrd, hin, hnew⟩ := own_dv (d := ⟨d.pages, d.writes, d.unread, d.dead, d.faults ++ [x]⟩) (HS7.out.own 3 rfl) (HS7.out.own 4 rfl) (by rw [List.length_append, fltRow_snoc]; exact hfo)
        exact ⟨_, _, _, R', by unfold injectR; rw [if_neg HX.out, if_neg HY.out, if_neg HZ.out]; rfl, by unfold injectR; rw [if_neg HX.out, if_neg HY.out, if_neg HZ.out]; exact hrd, hin, fun r hr => .inl (hnew r hr), HS7.out.old⟩
end Go.Proofs.Ythcjkbhkidijoaa
/- the program's Inject -/
namespace Go.Proofs.Ythcjkbhkidijoaa
open Go.RowKit
set_option maxRecDepth 20000
set_option linter.unusedSimpArgs false
set_option linter.unusedVariables false

set_option maxHeartbeats 8000000 in
theorem inject_any {p u f : Value} {d : Dv} {R : List Rng} (x : Flt) (w : World) (h : DvRd p u f d R) (hR : RdIn w R) (hg : GoodDv d) (hx : GoodFlt x) (hp : d.pages.length ≤ 1000) (hf : d.faults.length ≤ 1000) :
    Calls Try.prog 25 #[.agg (dvCells p d u f).toArray, .agg (fltCells x).toArray] w (DvPost w R (injectR d x)) := by
  have HV : Hid (∀ W, Below w.heap.size w W → Calls Try.prog 22 #[.agg (dvCells p d u f).toArray] W fun e w' => e = .returned (.bool (dvOkB d)) ∧ Below W.heap.size W w') := fun W hb => valid_any W h (hR.below hb) hg
  have HCp : Hid (∀ W, Below w.heap.size w W → Calls Try.prog 39 #[.agg (dvCells p d u f).toArray] W fun e w' => ∃ v, e = .returned v ∧ OwnDv W w' v d) := fun W hb => copied_any W h (hR.below hb) hp hg.unread hf
  have HFl : Hid (∀ W, Below w.heap.size w W → Calls Try.prog 54 #[.agg (dvCells p d u f).toArray, .agg (fltCells x).toArray] W fun e w' => e = .returned (.bool (fltOkB d.pages.length d.writes x)) ∧ Below W.heap.size W w') := fun W hb => validFault_any x W h (hR.below hb) hx
  have HLf := Lib.hid hf
  obtain ⟨fs, hud⟩ := under_dv
  have HUD := Lib.hid hud
  obtain ⟨fs2, huf⟩ := under_flt
  have HUF := Lib.hid huf
  clear hud huf
  have HUX : Hid (Try.prog.underlying 25 = some (.slice 29)) := Try.underlying25
  obtain ⟨pa, pc, rfl, hp1, hp3, hP2⟩ := h.pages.open hR
  obtain ⟨ua, uc, rfl, hu1, hu3, hU2⟩ := h.unread.open hR
  obtain ⟨fa, fc, rfl, hf1, hf3, hF2⟩ := h.faults.open hR
  clear h hR hg hP2 hU2 hF2 hx hf hp
  have h1 := (((Hp.start w).put 27 (dvCells (.slice pa d.pages.length pc) d (.slice ua d.unread.length uc) (.slice fa d.faults.length fc))).put 29 (fltCells x)).put 27 (dvCells nilS dvNil nilS nilS)
  simp only [World.size_alloc, List.nil_append, List.cons_append] at h1
  have HS0 : Hid (Hp w [.ob w.heap.size 27 (dvCells (.slice pa d.pages.length pc) d (.slice ua d.unread.length uc) (.slice fa d.faults.length fc)), .ob (w.heap.size + 1) 29 (fltCells x), .ob (w.heap.size + 1 + 1) 27 (dvCells nilS dvNil nilS nilS)] (((w.alloc (.cells (dvCells (.slice pa d.pages.length pc) d (.slice ua d.unread.length uc) (.slice fa d.faults.length fc)).toArray 27)).alloc (.cells (fltCells x).toArray 29)).alloc (.cells #[.slice none 0 0, .int .i64 0, .slice none 0 0, .bool false, .slice none 0 0] 27))) := h1
  clear h1 hp1 hp3 hu1 hu3 hf1 hf3
  go_enter Try.func25, Try.ntmps25
  go_wp2_with (first | ((with_reducible refine wpList_load_ob 27 (.tmp 2) (w.heap.size) (dvCells (.slice pa d.pages.length pc) d (.slice ua d.unread.length uc) (.slice fa d.faults.length fc)) 27 HUD.out ?_ ?_ ?_ ?_ ?_); (exact rfl); (exact (HS0.out).get 0 rfl); (exact rfl); (exact info_dv); simp only [Act.put, List.setIfInBounds_toArray, List.set_cons_zero, List.set_cons_succ]))
  refine (HV.out _ (HS0.out).old).mono ?_
  rintro e w3 ⟨rfl, hb⟩
  have HS2 : Hid (Hp w [.ob (w.heap.size) 27 (dvCells (.slice pa d.pages.length pc) d (.slice ua d.unread.length uc) (.slice fa d.faults.length fc)), .ob ((w.heap.size + 1)) 29 (fltCells x), .ob ((w.heap.size + 1 + 1)) 27 (dvCells nilS dvNil nilS nilS)] w3) := (HS0.out).calls hb
  clear hb
  clear HS0
  generalize (w.heap.size + 1 + 1) = B1 at *
  generalize (w.heap.size + 1) = B2 at *
  clear HV
  cases hv : dvOkB d
  case false =>
    have HX : Hid (dvOkB d = false) := hv
    clear hv
    go_wp2_with (first | ((with_reducible refine wpList_build_v 27 (.agg (dvCells nilS dvNil nilS nilS).toArray) ?_ ?_); (intro W; simp only [List.map_toArray, List.map_cons, List.map_nil]; exact build_dv0 W); simp only [Act.put, List.setIfInBounds_toArray, List.set_cons_zero, List.set_cons_succ]) | ((with_reducible refine wpList_store_ob 27 (.tmp 4) B1 (dvCells nilS dvNil nilS nilS) (dvCells nilS dvNil nilS nilS) 27 ?_ ?_ ?_ ?_ ?_ ?_ ?_); (exact rfl); (exact rfl); (exact (HS2.out).get 2 rfl); (exact info_dv); (exact rfl); (exact (oneCell_dv _ _ _ _ _ _ _ _ _ _)); skip))
    have HS3 : Hid (Hp w [.ob (w.heap.size) 27 (dvCells (.slice pa d.pages.length pc) d (.slice ua d.unread.length uc) (.slice fa d.faults.length fc)), .ob B2 29 (fltCells x), .ob B1 27 (dvCells nilS dvNil nilS nilS)] (w3.setRow B1 (dvCells nilS dvNil nilS nilS).toArray)) := (HS2.out).row 2 rfl (dvCells nilS dvNil nilS nilS)
    clear HS2
    generalize (w3.setRow B1 (dvCells nilS dvNil nilS nilS).toArray) = w4 at *
    refine bodyPost_ret (results_ob_tmp Try.results25 _ _ B1 (dvCells nilS dvNil nilS nilS) 27 _ rfl (HS3.out.get 2 rfl) HUD.out rfl info_dv) rfl ?_
    exact DvPost.none (by unfold injectR; rw [if_pos HX.out]) HS3.out.old
  case true =>
    have HX : Hid (¬ dvOkB d = false) := by show ¬ _; rw [hv]; decide
    clear hv
    go_wp2_with (first | ((with_reducible refine wpList_load_ob 27 (.tmp 2) (w.heap.size) (dvCells (.slice pa d.pages.length pc) d (.slice ua d.unread.length uc) (.slice fa d.faults.length fc)) 27 HUD.out ?_ ?_ ?_ ?_ ?_); (exact rfl); (exact (HS2.out).get 0 rfl); (exact rfl); (exact info_dv); simp only [Act.put, List.setIfInBounds_toArray, List.set_cons_zero, List.set_cons_succ]) | ((with_reducible refine wpList_load_ob 29 (.tmp 3) B2 (fltCells x) 29 HUF.out ?_ ?_ ?_ ?_ ?_); (exact rfl); (exact (HS2.out).get 1 rfl); (exact rfl); (exact info_flt); simp only [Act.put, List.setIfInBounds_toArray, List.set_cons_zero, List.set_cons_succ]))
    refine (HFl.out _ (HS2.out).old).mono ?_
    rintro e w4 ⟨rfl, hb⟩
    have HS3 : Hid (Hp w [.ob (w.heap.size) 27 (dvCells (.slice pa d.pages.length pc) d (.slice ua d.unread.length uc) (.slice fa d.faults.length fc)), .ob B2 29 (fltCells x), .ob B1 27 (dvCells nilS dvNil nilS nilS)] w4) := (HS2.out).calls hb
    clear hb
    clear HS2
    clear HFl
    cases hv : fltOkB d.pages.length d.writes x
    case false =>
      have HY : Hid (fltOkB d.pages.length d.writes x = false) := hv
      clear hv
      go_wp2_with (first | ((with_reducible refine wpList_build_v 27 (.agg (dvCells nilS dvNil nilS nilS).toArray) ?_ ?_); (intro W; simp only [List.map_toArray, List.map_cons, List.map_nil]; exact build_dv0 W); simp only [Act.put, List.setIfInBounds_toArray, List.set_cons_zero, List.set_cons_succ]) | ((with_reducible refine wpList_store_ob 27 (.tmp 4) B1 (dvCells nilS dvNil nilS nilS) (dvCells nilS dvNil nilS nilS) 27 ?_ ?_ ?_ ?_ ?_ ?_ ?_); (exact rfl); (exact rfl); (exact (HS3.out).get 2 rfl); (exact info_dv); (exact rfl); (exact (oneCell_dv _ _ _ _ _ _ _ _ _ _)); skip))
      have HS4 : Hid (Hp w [.ob (w.heap.size) 27 (dvCells (.slice pa d.pages.length pc) d (.slice ua d.unread.length uc) (.slice fa d.faults.length fc)), .ob B2 29 (fltCells x), .ob B1 27 (dvCells nilS dvNil nilS nilS)] (w4.setRow B1 (dvCells nilS dvNil nilS nilS).toArray)) := (HS3.out).row 2 rfl (dvCells nilS dvNil nilS nilS)
      clear HS3
      generalize (w4.setRow B1 (dvCells nilS dvNil nilS nilS).toArray) = w5 at *
      refine bodyPost_ret (results_ob_tmp Try.results25 _ _ B1 (dvCells nilS dvNil nilS nilS) 27 _ rfl (HS4.out.get 2 rfl) HUD.out rfl info_dv) rfl ?_
      exact DvPost.none (by unfold injectR; rw [if_neg HX.out, if_pos HY.out]) HS4.out.old
    case true =>
      have HY : Hid (¬ fltOkB d.pages.length d.writes x = false) := by show ¬ _; rw [hv]; decide
      clear hv
      have b4 : w4.cell? ⟨w.heap.size, 4, none⟩ = some (.slice fa d.faults.length fc) := (HS3.out).at 0 rfl 4 rfl
      by_cases hq : d.faults.length = 64
      case pos =>
        have HZ := Lib.hid hq
        have hqb : ((d.faults.length : Int) == 64) = true := by rw [hq]; rfl
        clear hq
        go_wp2_with (first | ((with_reducible refine wpList_build_v 27 (.agg (dvCells nilS dvNil nilS nilS).toArray) ?_ ?_); (intro W; simp only [List.map_toArray, List.map_cons, List.map_nil]; exact build_dv0 W); simp only [Act.put, List.setIfInBounds_toArray, List.set_cons_zero, List.set_cons_succ]) | ((with_reducible refine wpList_store_ob 27 (.tmp 4) B1 (dvCells nilS dvNil nilS nilS) (dvCells nilS dvNil nilS nilS) 27 ?_ ?_ ?_ ?_ ?_ ?_ ?_); (exact rfl); (exact rfl); (exact (HS3.out).get 2 rfl); (exact info_dv); (exact rfl); (exact (oneCell_dv _ _ _ _ _ _ _ _ _ _)); skip))
        have HS4 : Hid (Hp w [.ob (w.heap.size) 27 (dvCells (.slice pa d.pages.length pc) d (.slice ua d.unread.length uc) (.slice fa d.faults.length fc)), .ob B2 29 (fltCells x), .ob B1 27 (dvCells nilS dvNil nilS nilS)] (w4.setRow B1 (dvCells nilS dvNil nilS nilS).toArray)) := (HS3.out).row 2 rfl (dvCells nilS dvNil nilS nilS)
        clear HS3
        generalize (w4.setRow B1 (dvCells nilS dvNil nilS nilS).toArray) = w5 at *
        refine bodyPost_ret (results_ob_tmp Try.results25 _ _ B1 (dvCells nilS dvNil nilS nilS) 27 _ rfl (HS4.out.get 2 rfl) HUD.out rfl info_dv) rfl ?_
        exact DvPost.none (by unfold injectR; rw [if_neg HX.out, if_neg HY.out, if_pos HZ.out]) HS4.out.old
      case neg =>
        have HZ := Lib.hid hq
        have hqb : ((d.faults.length : Int) == 64) = false := by rw [beq_eq_false_iff_ne]; omega
        clear hq
        go_wp2_with (first | ((with_reducible refine wpList_load_ob 27 (.tmp 2) (w.heap.size) (dvCells (.slice pa d.pages.length pc) d (.slice ua d.unread.length uc) (.slice fa d.faults.length fc)) 27 HUD.out ?_ ?_ ?_ ?_ ?_); (exact rfl); (exact (HS3.out).get 0 rfl); (exact rfl); (exact info_dv); simp only [Act.put, List.setIfInBounds_toArray, List.set_cons_zero, List.set_cons_succ]))
        refine (HCp.out _ (HS3.out).old).mono ?_
        rintro e w20 ⟨v, rfl, p', u', f', rfl, hk⟩
        obtain ⟨a1, c1, rfl⟩ := own_slice (hk.own 0 rfl)
        obtain ⟨a2, c2, rfl⟩ := own_slice (hk.own 1 rfl)
        obtain ⟨a3, c3, rfl⟩ := own_slice (hk.own 2 rfl)
        have HS4 : Hid (Hp w [.ob (w.heap.size) 27 (dvCells (.slice pa d.pages.length pc) d (.slice ua d.unread.length uc) (.slice fa d.faults.length fc)), .ob B2 29 (fltCells x), .ob B1 27 (dvCells nilS dvNil nilS nilS), .sl ((.slice a1 d.pages.length c1)) 9 1 (d.pages.length) (strRow d.pages), .sl ((.slice a2 d.unread.length c2)) 3 1 (d.unread.length) (intRow d.unread), .sl ((.slice a3 d.faults.length c3)) 29 6 (d.faults.length) (fltRow d.faults)] w20) := (HS3.out).join hk (three_sl (sl_plain _ _ _ _ _) (sl_plain _ _ _ _ _) (sl_plain _ _ _ _ _))
        clear HS3
        clear HCp b4 hk
        have b4 : ((w20.setRow (w.heap.size) (dvCells (.slice a1 d.pages.length c1) d (.slice a2 d.unread.length c2) (.slice a3 d.faults.length c3)).toArray)).cell? ⟨(w.heap.size), 4, none⟩ = some (.slice a3 d.faults.length c3) := ((HS4.out).row 0 rfl (dvCells (.slice a1 d.pages.length c1) d (.slice a2 d.unread.length c2) (.slice a3 d.faults.length c3))).at 0 rfl 4 rfl
        go_wp2_with (first | ((with_reducible refine wpList_store_ob 27 (.tmp 2) (w.heap.size) (dvCells (.slice a1 d.pages.length c1) d (.slice a2 d.unread.length c2) (.slice a3 d.faults.length c3)) (dvCells (.slice pa d.pages.length pc) d (.slice ua d.unread.length uc) (.slice fa d.faults.length fc)) 27 ?_ ?_ ?_ ?_ ?_ ?_ ?_); (exact rfl); (exact rfl); (exact (HS4.out).get 0 rfl); (exact info_dv); (exact rfl); (exact (oneCell_dv _ _ _ _ _ _ _ _ _ _)); skip) | ((with_reducible refine wpList_load_ob 29 (.tmp 3) B2 (fltCells x) 29 HUF.out ?_ ?_ ?_ ?_ ?_); (exact rfl); (exact ((HS4.out).row 0 rfl (dvCells (.slice a1 d.pages.length c1) d (.slice a2 d.unread.length c2) (.slice a3 d.faults.length c3))).get 1 rfl); (exact rfl); (exact info_flt); simp only [Act.put, List.setIfInBounds_toArray, List.set_cons_zero, List.set_cons_succ]) | ((with_reducible refine wpList_build_obs 25 1 elem_flt HUX.out [fltCells x] ?_ ?_ ?_ ?_ ?_ ?_); (exact (List.forall_mem_cons.2 ⟨rfl, (fun _ h => absurd h List.not_mem_nil)⟩)); (exact Nat.succ_pos _); (simp only [List.length_cons, List.length_nil]; omega); (exact rfl); (simp only [List.map_toArray, List.map_cons, List.map_nil, List.zipIdx_cons, List.zipIdx_nil]; exact rfl); simp only [Act.put, List.setIfInBounds_toArray, List.set_cons_zero, List.set_cons_succ]) | ((with_reducible refine wpList_append_hp (((HS4.out).row 0 rfl (dvCells (.slice a1 d.pages.length c1) d (.slice a2 d.unread.length c2) (.slice a3 d.faults.length c3))).put 29 (([fltCells x] : List (List Value)).flatMap id)) (.tmp 26) (.tmp 28) 25 5 (v := (.slice a3 d.faults.length c3)) (e := 29) (z := 6) (n := d.faults.length) (xs := fltRow d.faults) ?_ 6 (b := ((w20.setRow (w.heap.size) (dvCells (.slice a1 d.pages.length c1) d (.slice a2 d.unread.length c2) (.slice a3 d.faults.length c3)).toArray).heap.size)) (t' := 29) (ys := ([fltCells x] : List (List Value)).flatMap id) ?_ HUX.out elem_flt 1 1 ?_ ?_ ?_ ?_ ?_ ?_); (exact rfl); (exact rfl); (exact rfl); (exact rfl); (exact rfl); (exact (one_flt x)); (exact (by have := HLf.out; omega))))
        intro v21 w21 hs hnil
        have HS6 : Hid (Hp w [.ob (w.heap.size) 27 (dvCells (.slice a1 d.pages.length c1) d (.slice a2 d.unread.length c2) (.slice a3 d.faults.length c3)), .ob B2 29 (fltCells x), .ob B1 27 (dvCells nilS dvNil nilS nilS), .sl ((.slice a1 d.pages.length c1)) 9 1 (d.pages.length) (strRow d.pages), .sl ((.slice a2 d.unread.length c2)) 3 1 (d.unread.length) (intRow d.unread), .sl v21 29 6 (d.faults.length + 1) ((fltRow d.faults) ++ (([fltCells x] : List (List Value)).flatMap id)), .ob ((w20.setRow (w.heap.size) (dvCells (.slice a1 d.pages.length c1) d (.slice a2 d.unread.length c2) (.slice a3 d.faults.length c3)).toArray).heap.size) 29 (([fltCells x] : List (List Value)).flatMap id)] w21) := hs
        clear hs
        clear HS4
        generalize (w20.setRow (w.heap.size) (dvCells (.slice a1 d.pages.length c1) d (.slice a2 d.unread.length c2) (.slice a3 d.faults.length c3)).toArray).heap.size = B3 at *
        obtain ⟨a4, c4, rfl⟩ := own_slice (HS6.out.own 5 rfl)
        have b4 : w21.cell? ⟨(w.heap.size), 4, none⟩ = some (.slice a3 d.faults.length c3) := HS6.out.at 0 rfl 4 rfl
        have f4 : w21.frozen? ⟨(w.heap.size), 4, none⟩ = false := HS6.out.frozen 0 rfl 4
        have HS40 : Hid (Hp w [.ob (w.heap.size) 27 (dvCells (.slice a1 d.pages.length c1) d (.slice a2 d.unread.length c2) (.slice a4 (d.faults.length + 1) c4)), .ob B2 29 (fltCells x), .ob B1 27 (dvCells nilS dvNil nilS nilS), .sl ((.slice a1 d.pages.length c1)) 9 1 (d.pages.length) (strRow d.pages), .sl ((.slice a2 d.unread.length c2)) 3 1 (d.unread.length) (intRow d.unread), .sl ((.slice a4 (d.faults.length + 1) c4)) 29 6 (d.faults.length + 1) ((fltRow d.faults) ++ (([fltCells x] : List (List Value)).flatMap id)), .ob B3 29 (([fltCells x] : List (List Value)).flatMap id)] (w21.setCell ⟨(w.heap.size), 4, none⟩ (.slice a4 (d.faults.length + 1) c4))) := (HS6.out).set 0 rfl 4 (.slice a4 (d.faults.length + 1) c4)
        go_wp2_with (first | ((with_reducible refine wpList_load_ob 27 (.tmp 2) (w.heap.size) (dvCells (.slice a1 d.pages.length c1) d (.slice a2 d.unread.length c2) (.slice a4 (d.faults.length + 1) c4)) 27 HUD.out ?_ ?_ ?_ ?_ ?_); (exact rfl); (exact (HS40.out).get 0 rfl); (exact rfl); (exact info_dv); simp only [Act.put, List.setIfInBounds_toArray, List.set_cons_zero, List.set_cons_succ]) | ((with_reducible refine wpList_store_ob 27 (.tmp 4) B1 (dvCells (.slice a1 d.pages.length c1) d (.slice a2 d.unread.length c2) (.slice a4 (d.faults.length + 1) c4)) (dvCells nilS dvNil nilS nilS) 27 ?_ ?_ ?_ ?_ ?_ ?_ ?_); (exact rfl); (exact rfl); (exact (HS40.out).get 2 rfl); (exact info_dv); (exact rfl); (exact (oneCell_dv _ _ _ _ _ _ _ _ _ _)); skip))
        have HS7 : Hid (Hp w [.ob (w.heap.size) 27 (dvCells (.slice a1 d.pages.length c1) d (.slice a2 d.unread.length c2) (.slice a4 (d.faults.length + 1) c4)), .ob B2 29 (fltCells x), .ob B1 27 (dvCells (.slice a1 d.pages.length c1) d (.slice a2 d.unread.length c2) (.slice a4 (d.faults.length + 1) c4)), .sl ((.slice a1 d.pages.length c1)) 9 1 (d.pages.length) (strRow d.pages), .sl ((.slice a2 d.unread.length c2)) 3 1 (d.unread.length) (intRow d.unread), .sl ((.slice a4 (d.faults.length + 1) c4)) 29 6 (d.faults.length + 1) ((fltRow d.faults) ++ (([fltCells x] : List (List Value)).flatMap id)), .ob B3 29 (([fltCells x] : List (List Value)).flatMap id)] ((w21.setCell ⟨(w.heap.size), 4, none⟩ (.slice a4 (d.faults.length + 1) c4)).setRow B1 (dvCells (.slice a1 d.pages.length c1) d (.slice a2 d.unread.length c2) (.slice a4 (d.faults.length + 1) c4)).toArray)) := (HS40.out).row 2 rfl (dvCells (.slice a1 d.pages.length c1) d (.slice a2 d.unread.length c2) (.slice a4 (d.faults.length + 1) c4))
        clear HS6
        generalize ((w21.setCell ⟨(w.heap.size), 4, none⟩ (.slice a4 (d.faults.length + 1) c4)).setRow B1 (dvCells (.slice a1 d.pages.length c1) d (.slice a2 d.unread.length c2) (.slice a4 (d.faults.length + 1) c4)).toArray) = w22 at *
        refine bodyPost_ret (results_ob_tmp Try.results25 _ _ B1 (dvCells (.slice a1 d.pages.length c1) d (.slice a2 d.unread.length c2) (.slice a4 (d.faults.length + 1) c4)) 27 _ rfl (HS7.out.get 2 rfl) HUD.out rfl info_dv) rfl ?_
        have hfo : _ := HS7.out.own 5 rfl
        obtain ⟨R', hrd, hin, hnew⟩ := own_dv (d := ⟨d.pages, d.writes, d.unread, d.dead, d.faults ++ [x]⟩) (HS7.out.own 3 rfl) (HS7.out.own 4 rfl) (by rw [List.length_append, fltRow_snoc]; exact hfo)
        exact ⟨_, _, _, R', by unfold injectR; rw [if_neg HX.out, if_neg HY.out, if_neg HZ.out]; rfl, by unfold injectR; rw [if_neg HX.out, if_neg HY.out, if_neg HZ.out]; exact hrd, hin, fun r hr => .inl (hnew r hr), HS7.out.old⟩
end Go.Proofs.Ythcjkbhkidijoaa
/- what the program's Write is made of -/
namespace Go.Proofs.Ythcjkbhkidijoaa
open Go.RowKit
set_option maxRecDepth 20000
set_option linter.unusedSimpArgs false
set_option linter.unusedVariables false

/-- what Write keeps of a device -/
structure DvInv (n m : Nat) (d : Dv) : Prop where
  num : d.pages.length = n
  all : ∀ s ∈ d.pages, s.size = 256
  asc : d.unread.Pairwise (· < ·)
  few : d.unread.length ≤ m
theorem without_asc {l : List Int} (t : Int) (h : l.Pairwise (· < ·)) : (withoutR l t).Pairwise (· < ·) := h.sublist (List.filter_sublist)
theorem without_le (l : List Int) (t : Int) : (withoutR l t).length ≤ l.length := List.length_filter_le _ _
theorem with_mem {t : Int} : ∀ {l : List Int} {x : Int}, x ∈ withR t l → x = t ∨ x ∈ l
  | [], x, h => .inl (by simpa [withR] using h)
  | y :: l, x, h => by
    have h' : x ∈ (if t ≤ y then t :: withoutR (y :: l) t else y :: withR t l) := h
    split at h'
    · rcases List.mem_cons.1 h' with h1 | h1
      · exact .inl h1
      · exact .inr ((List.mem_filter.1 h1).1)
    · rcases List.mem_cons.1 h' with h1 | h1
      · exact .inr (by rw [h1]; exact List.mem_cons_self ..)
      · rcases with_mem h1 with h2 | h2
        · exact .inl h2
        · exact .inr (List.mem_cons_of_mem _ h2)
theorem with_len (t : Int) : ∀ l : List Int, (withR t l).length ≤ l.length + 1
  | [] => Nat.le_refl _
  | y :: l => by
    show (if t ≤ y then t :: withoutR (y :: l) t else y :: withR t l).length ≤ _
    split
    · have := without_le (y :: l) t
      simp only [List.length_cons] at this ⊢
      omega
    · have := with_len t l
      simp only [List.length_cons]
      omega
theorem with_asc (t : Int) : ∀ {l : List Int}, l.Pairwise (· < ·) → (withR t l).Pairwise (· < ·)
  | [], _ => List.pairwise_singleton _ _
  | y :: l, h => by
    show (if t ≤ y then t :: withoutR (y :: l) t else y :: withR t l).Pairwise _
    split
    · rename_i hty
      rw [List.pairwise_cons]
      refine ⟨fun x hx => ?_, without_asc t h⟩
      have h1 := List.mem_filter.1 hx
      have h2 : x ≠ t := by simpa using h1.2
      rw [List.pairwise_cons] at h
      rcases List.mem_cons.1 h1.1 with h3 | h3
      · omega
      · have := h.1 x h3; omega
    · rename_i hty
      rw [List.pairwise_cons] at h ⊢
      refine ⟨fun x hx => ?_, with_asc t h.2⟩
      rcases with_mem hx with h1 | h1
      · omega
      · exact h.1 x h1
theorem rot_size (y : ByteArray) (j : Nat) (m : Int) : (rotR y j m).size = y.size := by
  show (y.data.modify j _).size = y.data.size
  simp
theorem set_all {l : List ByteArray} {k : Nat} {y : ByteArray} (h : ∀ s ∈ l, s.size = 256) (hy : y.size = 256) : ∀ s ∈ l.set k y, s.size = 256 := fun s hs => by
  rcases List.mem_or_eq_of_mem_set hs with h1 | h1
  · exact h s h1
  · rw [h1]; exact hy
theorem place_inv {n m : Nat} {d : Dv} (h : DvInv n m d) (page : Int) (hp : 0 ≤ page ∧ page < (n : Int)) (s : ByteArray) (hs : s.size = 256) (k : Nat) (hk : k ≤ 256) : DvInv n m (placeR d page s k) := by
  have hpl : page.toNat < d.pages.length := by rw [h.num]; omega
  refine ⟨by unfold placeR; simp only [List.length_set]; exact h.num, set_all h.all ?_, without_asc _ h.asc, Nat.le_trans (without_le _ _) h.few⟩
  have h1 : (d.pages.getD page.toNat ⟨#[]⟩).size = 256 := by rw [List.getD_eq_getElem?_getD, List.getElem?_eq_getElem hpl]; exact h.all _ (List.getElem_mem hpl)
  rw [ByteArray.size_append, ByteArray.size_extract, ByteArray.size_extract, h1, hs]
  omega
theorem happen_inv {n m : Nat} {d : Dv} (h : DvInv n m d) (x : Flt) : DvInv n (m + 1) (happenR d x) := by
  have hw : DvInv n (m + 1) d := ⟨h.num, h.all, h.asc, Nat.le_succ_of_le h.few⟩
  unfold happenR
  split
  · refine ⟨by simp only [List.length_modify]; exact h.num, fun s hs => ?_, hw.asc, hw.few⟩
    obtain ⟨i, hi, rfl⟩ := List.getElem_of_mem hs
    simp only [List.length_modify] at hi
    simp only [List.getElem_modify]
    split
    · rw [rot_size]; exact h.all _ (List.getElem_mem hi)
    · exact h.all _ (List.getElem_mem hi)
  · split
    · exact ⟨h.num, h.all, with_asc _ h.asc, Nat.le_trans (with_len _ _) (Nat.succ_le_succ h.few)⟩
    · split
      · exact ⟨hw.num, hw.all, hw.asc, hw.few⟩
      · exact hw
theorem land_inv {n m : Nat} {d : Dv} (h : DvInv n m d) (page : Int) (hp : 0 ≤ page ∧ page < (n : Int)) (s : ByteArray) (hs : s.size = 256) : ∀ l : List Flt, (∀ x ∈ l, (0 ≤ x.target ∧ x.target < (n : Int)) ∧ (0 ≤ x.byte ∧ x.byte < 256)) → DvInv n m (landR d page s l)
  | [], _ => place_inv h page hp s hs 256 (Nat.le_refl _)
  | x :: l, hl => by
    have hx := hl x (List.mem_cons_self ..)
    unfold landR
    split
    · exact h
    · split
      · exact place_inv h _ hx.1 s hs 256 (Nat.le_refl _)
      · split
        · exact place_inv h page hp s hs _ (by omega)
        · exact land_inv h page hp s hs l (fun y hy => hl y (List.mem_cons_of_mem _ hy))
theorem fold_inv {n : Nat} : ∀ (l : List Flt) {m : Nat} {d : Dv}, DvInv n m d → DvInv n (m + l.length) (l.foldl happenR d)
  | [], _, _, h => h
  | x :: l, m, d, h => by
    have := fold_inv l (happen_inv h x)
    rw [List.length_cons, show m + (l.length + 1) = m + 1 + l.length from by omega]
    exact this
theorem dput_place {d : Dv} (s : ByteArray) (k n : Nat) (hs : s.size = 256) (hn : n ≤ 256) : dputR d k (s.extract 0 n) = placeR d k s n := by
  unfold dputR placeR
  rw [ByteArray.size_extract, hs, Int.toNat_natCast, show min n 256 - 0 = n from by omega]
theorem extract_all (s : ByteArray) (hs : s.size = 256) : s.extract 0 256 = s := by
  have := ByteArray.extract_zero_size (b := s)
  rw [hs] at this
  exact this
/-- carryOut at what fate says -/
theorem carry_any {w0 W : World} {M : List Th} {b : Nat} {p u f : Value} {d : Dv} {n m : Nat} (s : ByteArray) (k : Nat) (l : List Flt) (h : Hp w0 (DvTh b p u f d M) W) (hi : DvInv n m d) (hn : n ≤ 1000) (hm : m ≤ 1000) (hk : k < n) (hs : s.size = 256) (hl : ∀ x ∈ l, (0 ≤ x.target ∧ x.target < (n : Int)) ∧ (0 ≤ x.byte ∧ x.byte < 256)) :
    Calls Try.prog 44 #[.pointer (some ⟨b, 0, none⟩), .int .i64 k, .string s, fateV l] W fun e W' => e = .returned (.tuple #[]) ∧ ∃ u', Hp w0 (DvTh b p u' f (landR d k s l) M) W' := by
  have hnum := hi.num
  have hfew := hi.few
  induction l with
  | nil =>
    have := carry_whole s h k (by omega) hi.all hs (by omega) (by omega)
    have e : landR d k s [] = dputR d k s := by
      show placeR d k s 256 = _
      rw [← dput_place s k 256 hs (Nat.le_refl _), extract_all s hs]
    rw [e]
    exact this
  | cons x l ih =>
    have hx := hl x (List.mem_cons_self ..)
    unfold fateV landR
    by_cases k1 : x.kind = 1
    · rw [if_pos k1, if_pos k1]
      exact carry_lost s k h
    rw [if_neg k1, if_neg k1]
    by_cases k2 : x.kind = 2
    · rw [if_pos k2, if_pos k2]
      obtain ⟨t, ht⟩ := Int.eq_ofNat_of_zero_le hx.1.1
      have := carry_astray s h t (by have := hx.1.2; omega) hi.all hs (by omega) (by omega) (page := (k : Int))
      rw [ht, ← dput_place s t 256 hs (Nat.le_refl _), extract_all s hs]
      exact this
    rw [if_neg k2, if_neg k2]
    by_cases k3 : x.kind = 3
    · rw [if_pos k3, if_pos k3]
      obtain ⟨t, ht⟩ := Int.eq_ofNat_of_zero_le hx.2.1
      have ht2 : t ≤ 256 := by have := hx.2.2; omega
      have := carry_torn s h k (by omega) hi.all hs (by omega) (by omega) t ht2
      rw [ht, Int.toNat_natCast, ← dput_place s k t hs ht2]
      exact this
    rw [if_neg k3, if_neg k3]
    exact ih (fun y hy => hl y (List.mem_cons_of_mem _ hy))
theorem enters_w1 : EntersF 42 := enters_of Try.func42 (by kernel_rfl) rfl
set_option maxHeartbeats 4000000 in
theorem w1_any (x : Flt) (n : Int) (B : Nat) (W : World) (hc : W.cell? ⟨B, 1, none⟩ = some (.int .i64 n)) :
    Calls Try.prog 42 #[.agg (fltCells x).toArray, .pointer (some ⟨B, 0, none⟩)] W fun e w' => e = .returned (.bool (decide (¬ x.at_ = n))) ∧ Below W.heap.size W w' := by
  obtain ⟨kd, at_, pg, tg, by_, ms⟩ := x
  have HB : Hid (Below W.heap.size W (W.alloc (.cells #[.int .i64 kd, .int .i64 at_, .int .i64 pg, .int .i64 tg, .int .i64 by_, .int .u8 ms] 29))) := (Below.refl _ _).alloc (Nat.le_refl _) _
  have hc2 : (W.alloc (.cells #[.int .i64 kd, .int .i64 at_, .int .i64 pg, .int .i64 tg, .int .i64 by_, .int .u8 ms] 29)).cell? ⟨B, 1, none⟩ = some (.int .i64 n) := (HB.out.cell (p := ⟨B, 1, none⟩) (World.block_lt_of_cell? W _ hc)).trans hc
  clear hc
  show Calls Try.prog 42 #[.agg #[.int .i64 kd, .int .i64 at_, .int .i64 pg, .int .i64 tg, .int .i64 by_, .int .u8 ms], .pointer (some ⟨B, 0, none⟩)] W fun e w' => e = .returned (.bool (decide (¬ at_ = n))) ∧ Below W.heap.size W w'
  by_cases h : at_ = n
  · have h1 : (at_ != n) = false := by simp [h]
    have HD : Hid (decide (¬ at_ = n) = false) := by show _ = _; simp [h]
    clear h
    go_enter Try.func42, Try.ntmps42
    go_wp2
    go_ret
    exact ⟨by rw [HD.out]; rfl, HB.out⟩
  · have h1 : (at_ != n) = true := by simp [h]
    have HD : Hid (decide (¬ at_ = n) = true) := by show _ = _; simp [h]
    clear h
    go_enter Try.func42, Try.ntmps42
    go_wp2
    go_ret
    exact ⟨by rw [HD.out]; rfl, HB.out⟩
theorem enters_w2 : EntersF 43 := enters_of Try.func43 (by kernel_rfl) rfl
set_option maxHeartbeats 4000000 in
theorem w2_any (x : Flt) (n : Int) (B : Nat) (W : World) (hc : W.cell? ⟨B, 1, none⟩ = some (.int .i64 n)) :
    Calls Try.prog 43 #[.agg (fltCells x).toArray, .pointer (some ⟨B, 0, none⟩)] W fun e w' => e = .returned (.bool (decide (x.at_ = n))) ∧ Below W.heap.size W w' := by
  obtain ⟨kd, at_, pg, tg, by_, ms⟩ := x
  have HB : Hid (Below W.heap.size W (W.alloc (.cells #[.int .i64 kd, .int .i64 at_, .int .i64 pg, .int .i64 tg, .int .i64 by_, .int .u8 ms] 29))) := (Below.refl _ _).alloc (Nat.le_refl _) _
  have hc2 : (W.alloc (.cells #[.int .i64 kd, .int .i64 at_, .int .i64 pg, .int .i64 tg, .int .i64 by_, .int .u8 ms] 29)).cell? ⟨B, 1, none⟩ = some (.int .i64 n) := (HB.out.cell (p := ⟨B, 1, none⟩) (World.block_lt_of_cell? W _ hc)).trans hc
  clear hc
  show Calls Try.prog 43 #[.agg #[.int .i64 kd, .int .i64 at_, .int .i64 pg, .int .i64 tg, .int .i64 by_, .int .u8 ms], .pointer (some ⟨B, 0, none⟩)] W fun e w' => e = .returned (.bool (decide (at_ = n))) ∧ Below W.heap.size W w'
  by_cases h : at_ = n
  · have h1 : (at_ == n) = true := by simp [h]
    have HD : Hid (decide (at_ = n) = true) := by show _ = _; simp [h]
    clear h
    go_enter Try.func43, Try.ntmps43
    go_wp2
    go_ret
    exact ⟨by rw [HD.out]; rfl, HB.out⟩
  · have h1 : (at_ == n) = false := by simp [h]
    have HD : Hid (decide (at_ = n) = false) := by show _ = _; simp [h]
    clear h
    go_enter Try.func43, Try.ntmps43
    go_wp2
    go_ret
    exact ⟨by rw [HD.out]; rfl, HB.out⟩
end Go.Proofs.Ythcjkbhkidijoaa
/- the program's Write -/
namespace Go.Proofs.Ythcjkbhkidijoaa
open Go.RowKit
set_option maxRecDepth 20000
set_option linter.unusedSimpArgs false
set_option linter.unusedVariables false

theorem now_eq (d : Dv) : (d.faults.filter fun x => !decide (¬ x.at_ = d.writes + 1)) = nowR d := by
  unfold nowR
  congr 1
  funext x
  simp
theorem land_faults (d : Dv) (page : Int) (s : ByteArray) : ∀ l : List Flt, (landR d page s l).faults = d.faults
  | [] => rfl
  | x :: l => by
    unfold landR
    split
    · rfl
    · split
      · rfl
      · split
        · rfl
        · exact land_faults d page s l
theorem happen_faults (d : Dv) (x : Flt) : (happenR d x).faults = d.faults := by
  unfold happenR
  split
  · rfl
  · split
    · rfl
    · split <;> rfl
theorem fold_faults : ∀ (l : List Flt) (d : Dv), (l.foldl happenR d).faults = d.faults
  | [], _ => rfl
  | x :: l, d => (fold_faults l (happenR d x)).trans (happen_faults d x)
/-- what a valid device is to the program's Write -/
theorem ok_inv {d : Dv} (h : dvOkB d = true) : DvInv d.pages.length 64 d ∧ d.pages.length ≤ 64 ∧ d.faults.length ≤ 64 ∧ 0 ≤ d.writes ∧ d.writes ≤ 1099511627776 ∧ ∀ x ∈ d.faults, fltOkB d.pages.length d.writes x = true := by
  unfold dvOkB numsB at h
  simp only [Bool.and_eq_true, Bool.not_eq_true', decide_eq_false_iff_not] at h
  obtain ⟨⟨h1, h2, h3, h4, h5⟩, h6, h7, h8⟩ := h
  have hb : ∀ i, i < d.unread.length → unreadAtB d.pages.length d.unread i = true := fun i hi => (List.all_eq_true.1 h7) i (List.mem_range.2 hi)
  have hat : ∀ i (hi : i < d.unread.length), 0 ≤ d.unread[i] ∧ d.unread[i] < (d.pages.length : Int) ∧ (0 < i → d.unread.getD (i - 1) 0 < d.unread[i]) := fun i hi => by
    have := hb i hi
    unfold unreadAtB at this
    have e : d.unread.getD i 0 = d.unread[i] := by rw [List.getD_eq_getElem?_getD, List.getElem?_eq_getElem hi]; rfl
    rw [e] at this
    simp only [Bool.and_eq_true, Bool.not_eq_true', decide_eq_false_iff_not, Bool.and_eq_false_iff] at this
    refine ⟨by omega, by omega, fun h0 => ?_⟩
    rcases this.2.2 with h9 | h9
    · exact absurd h0 h9
    · omega
  have hasc : d.unread.Pairwise (· < ·) := by
    rw [List.pairwise_iff_getElem]
    intro i j hi hj hij
    induction j with
    | zero => omega
    | succ j ih =>
      have hstep := (hat (j + 1) hj).2.2 (Nat.succ_pos _)
      have e : d.unread.getD (j + 1 - 1) 0 = d.unread[j]'(by omega) := by rw [Nat.add_sub_cancel, List.getD_eq_getElem?_getD, List.getElem?_eq_getElem (by omega)]; rfl
      rw [e] at hstep
      rcases Nat.lt_or_eq_of_le (Nat.le_of_lt_succ hij) with h9 | h9
      · have := ih (by omega) h9
        omega
      · subst h9; exact hstep
  have hge : ∀ i (hi : i < d.unread.length), (i : Int) ≤ d.unread[i] := by
    intro i
    induction i with
    | zero => intro hi; exact (hat 0 hi).1
    | succ i ih =>
      intro hi
      have h9 := ih (by omega)
      have h10 := List.pairwise_iff_getElem.1 hasc i (i + 1) (by omega) hi (Nat.lt_succ_self _)
      omega
  have hfew : d.unread.length ≤ 64 := by
    rcases Nat.eq_zero_or_pos d.unread.length with h0 | h0
    · omega
    · have h9 := hge (d.unread.length - 1) (by omega)
      have h10 := (hat (d.unread.length - 1) (by omega)).2.1
      omega
  refine ⟨⟨rfl, fun s hs => by simpa using (List.all_eq_true.1 h6) s hs, hasc, hfew⟩, by omega, by omega, by omega, by omega, fun x hx => (List.all_eq_true.1 h8) x hx⟩
theorem flt_ranges {n : Nat} {w : Int} {x : Flt} (h : fltOkB n w x = true) : (0 ≤ x.target ∧ x.target < (n : Int)) ∧ (0 ≤ x.byte ∧ x.byte < 256) ∧ (0 ≤ x.page ∧ x.page < (n : Int)) := by
  unfold fltOkB rangesB at h
  simp only [Bool.and_eq_true, Bool.not_eq_true', decide_eq_false_iff_not] at h
  obtain ⟨⟨h1, h2, h3, h4, h5, h6, h7, h8⟩, _⟩ := h
  omega
theorem mask_rng {x : Flt} (h : GoodFlt x) : 0 ≤ x.mask ∧ x.mask < 256 := by
  have := h.mask
  have e1 : IntKind.u8.min = 0 := by decide
  have e2 : IntKind.u8.max = 255 := by decide
  simp [Lit.wf, e1, e2] at this
  omega
set_option maxHeartbeats 16000000 in
theorem write_any {p u f : Value} {d : Dv} {R : List Rng} (page : Int) (s : ByteArray) (w : World) (h : DvRd p u f d R) (hR : RdIn w R) (hg : GoodDv d) (hss : s.size ≤ maxLen) (hp : d.pages.length ≤ 1000) (hf : d.faults.length ≤ 1000) :
    Calls Try.prog 20 #[.agg (dvCells p d u f).toArray, .int .i64 page, .string s] w (DvPost w R (writeR d page s)) := by
  have HV : Hid (∀ W, Below w.heap.size w W → Calls Try.prog 38 #[.agg (dvCells p d u f).toArray, .int .i64 page] W fun e w' => e = .returned (.int .i64 (usableR d page)) ∧ Below W.heap.size W w') := fun W hb => reach_any page W h (hR.below hb) hg
  have HCp : Hid (∀ W, Below w.heap.size w W → Calls Try.prog 39 #[.agg (dvCells p d u f).toArray] W fun e w' => ∃ v, e = .returned v ∧ OwnDv W w' v d) := fun W hb => copied_any W h (hR.below hb) hp hg.unread hf
  have HGf : Hid (∀ x ∈ d.faults, GoodFlt x) := hg.faults
  have HLf := Lib.hid hf
  obtain ⟨fs, hud⟩ := under_dv
  have HUD := Lib.hid hud
  obtain ⟨fs2, huf⟩ := under_flt
  have HUF := Lib.hid huf
  clear hud huf
  obtain ⟨pa, pc, rfl, hp1, hp3, hP2⟩ := h.pages.open hR
  obtain ⟨ua, uc, rfl, hu1, hu3, hU2⟩ := h.unread.open hR
  obtain ⟨fa, fc, rfl, hf1, hf3, hF2⟩ := h.faults.open hR
  clear h hR hg hP2 hU2 hF2 hf hp
  have h1 := ((Hp.start w).put 27 (dvCells (.slice pa d.pages.length pc) d (.slice ua d.unread.length uc) (.slice fa d.faults.length fc))).put 27 (dvCells nilS dvNil nilS nilS)
  simp only [World.size_alloc, List.nil_append, List.cons_append] at h1
  have HS0 : Hid (Hp w [.ob w.heap.size 27 (dvCells (.slice pa d.pages.length pc) d (.slice ua d.unread.length uc) (.slice fa d.faults.length fc)), .ob (w.heap.size + 1) 27 (dvCells nilS dvNil nilS nilS)] ((w.alloc (.cells (dvCells (.slice pa d.pages.length pc) d (.slice ua d.unread.length uc) (.slice fa d.faults.length fc)).toArray 27)).alloc (.cells #[.slice none 0 0, .int .i64 0, .slice none 0 0, .bool false, .slice none 0 0] 27))) := h1
  clear h1 hp1 hp3 hu1 hu3 hf1 hf3
  have hsm : (s.size : Int) ≤ 9223372036854775807 := by unfold maxLen at hss; omega
  clear hss
  go_enter Try.func20, Try.ntmps20
  go_wp2_with (first | ((with_reducible refine wpList_load_ob 27 (.tmp 3) (w.heap.size) (dvCells (.slice pa d.pages.length pc) d (.slice ua d.unread.length uc) (.slice fa d.faults.length fc)) 27 HUD.out ?_ ?_ ?_ ?_ ?_); (exact rfl); (exact (HS0.out).get 0 rfl); (exact rfl); (exact info_dv); simp only [Act.put, List.setIfInBounds_toArray, List.set_cons_zero, List.set_cons_succ]))
  refine (HV.out _ (HS0.out).old).mono ?_
  rintro e w3 ⟨rfl, hb⟩
  have HS2 : Hid (Hp w [.ob (w.heap.size) 27 (dvCells (.slice pa d.pages.length pc) d (.slice ua d.unread.length uc) (.slice fa d.faults.length fc)), .ob ((w.heap.size + 1)) 27 (dvCells nilS dvNil nilS nilS)] w3) := (HS0.out).calls hb
  clear hb
  clear HS0
  generalize (w.heap.size + 1) = B1 at *
  clear HV
  by_cases hv : usableR d page = 0
  case neg =>
    have HX := Lib.hid hv
    have hq : (usableR d page != 0) = true := by rw [bne_iff_ne]; exact hv
    clear hv
    go_wp2_with (first | ((with_reducible refine wpList_build_v 27 (.agg (dvCells nilS dvNil nilS nilS).toArray) ?_ ?_); (intro W; simp only [List.map_toArray, List.map_cons, List.map_nil]; exact build_dv0 W); simp only [Act.put, List.setIfInBounds_toArray, List.set_cons_zero, List.set_cons_succ]) | ((with_reducible refine wpList_store_ob 27 (.tmp 6) B1 (dvCells nilS dvNil nilS nilS) (dvCells nilS dvNil nilS nilS) 27 ?_ ?_ ?_ ?_ ?_ ?_ ?_); (exact rfl); (exact rfl); (exact (HS2.out).get 1 rfl); (exact info_dv); (exact rfl); (exact (oneCell_dv _ _ _ _ _ _ _ _ _ _)); skip))
    have HS3 : Hid (Hp w [.ob (w.heap.size) 27 (dvCells (.slice pa d.pages.length pc) d (.slice ua d.unread.length uc) (.slice fa d.faults.length fc)), .ob B1 27 (dvCells nilS dvNil nilS nilS)] (w3.setRow B1 (dvCells nilS dvNil nilS nilS).toArray)) := (HS2.out).row 1 rfl (dvCells nilS dvNil nilS nilS)
    clear HS2
    generalize (w3.setRow B1 (dvCells nilS dvNil nilS nilS).toArray) = w4 at *
    refine bodyPost_ret (results_ob_tmp Try.results20 _ _ B1 (dvCells nilS dvNil nilS nilS) 27 _ rfl (HS3.out.get 1 rfl) HUD.out rfl info_dv) rfl ?_
    exact DvPost.none (by unfold writeR; rw [if_pos HX.out]) HS3.out.old
  case pos =>
    have HX : Hid (¬ usableR d page ≠ 0) := fun h => h hv
    have hq : (usableR d page != 0) = false := by rw [hv]; rfl
    obtain ⟨hok, hdd, g0, g1⟩ := usable_ok hv
    have HOk := Lib.hid (ok_inv hok)
    obtain ⟨k, rfl⟩ := Int.eq_ofNat_of_zero_le g0
    have HKn : Hid (k < d.pages.length) := by show _ < _; omega
    clear hv hok hdd g0 g1
    have b1 : w3.cell? ⟨w.heap.size, 1, none⟩ = some (.int .i64 d.writes) := (HS2.out).at 0 rfl 1 rfl
    by_cases hz : s.size = 256
    case neg =>
      have HY := Lib.hid hz
      have hqs : ((s.size : Int) != 256) = true := by rw [bne_iff_ne]; omega
      clear hz
      go_wp2_with (first | ((with_reducible refine wpList_build_v 27 (.agg (dvCells nilS dvNil nilS nilS).toArray) ?_ ?_); (intro W; simp only [List.map_toArray, List.map_cons, List.map_nil]; exact build_dv0 W); simp only [Act.put, List.setIfInBounds_toArray, List.set_cons_zero, List.set_cons_succ]) | ((with_reducible refine wpList_store_ob 27 (.tmp 6) B1 (dvCells nilS dvNil nilS nilS) (dvCells nilS dvNil nilS nilS) 27 ?_ ?_ ?_ ?_ ?_ ?_ ?_); (exact rfl); (exact rfl); (exact (HS2.out).get 1 rfl); (exact info_dv); (exact rfl); (exact (oneCell_dv _ _ _ _ _ _ _ _ _ _)); skip))
      have HS3 : Hid (Hp w [.ob (w.heap.size) 27 (dvCells (.slice pa d.pages.length pc) d (.slice ua d.unread.length uc) (.slice fa d.faults.length fc)), .ob B1 27 (dvCells nilS dvNil nilS nilS)] (w3.setRow B1 (dvCells nilS dvNil nilS nilS).toArray)) := (HS2.out).row 1 rfl (dvCells nilS dvNil nilS nilS)
      clear HS2
      generalize (w3.setRow B1 (dvCells nilS dvNil nilS nilS).toArray) = w4 at *
      refine bodyPost_ret (results_ob_tmp Try.results20 _ _ B1 (dvCells nilS dvNil nilS nilS) 27 _ rfl (HS3.out.get 1 rfl) HUD.out rfl info_dv) rfl ?_
      exact DvPost.none (by unfold writeR; rw [if_neg HX.out, if_pos HY.out]) HS3.out.old
    case pos =>
      have HY : Hid (¬ s.size ≠ 256) := fun h => h hz
      have HSz := Lib.hid hz
      have hqs : ((s.size : Int) != 256) = false := by rw [hz]; rfl
      clear hz
      by_cases hl : d.writes = 1099511627776
      case pos =>
        have HZ := Lib.hid hl
        have hql : (d.writes == 1099511627776) = true := by rw [hl]; rfl
        clear hl
        go_wp2_with (first | ((with_reducible refine wpList_build_v 27 (.agg (dvCells nilS dvNil nilS nilS).toArray) ?_ ?_); (intro W; simp only [List.map_toArray, List.map_cons, List.map_nil]; exact build_dv0 W); simp only [Act.put, List.setIfInBounds_toArray, List.set_cons_zero, List.set_cons_succ]) | ((with_reducible refine wpList_store_ob 27 (.tmp 6) B1 (dvCells nilS dvNil nilS nilS) (dvCells nilS dvNil nilS nilS) 27 ?_ ?_ ?_ ?_ ?_ ?_ ?_); (exact rfl); (exact rfl); (exact (HS2.out).get 1 rfl); (exact info_dv); (exact rfl); (exact (oneCell_dv _ _ _ _ _ _ _ _ _ _)); skip))
        have HS3 : Hid (Hp w [.ob (w.heap.size) 27 (dvCells (.slice pa d.pages.length pc) d (.slice ua d.unread.length uc) (.slice fa d.faults.length fc)), .ob B1 27 (dvCells nilS dvNil nilS nilS)] (w3.setRow B1 (dvCells nilS dvNil nilS nilS).toArray)) := (HS2.out).row 1 rfl (dvCells nilS dvNil nilS nilS)
        clear HS2
        generalize (w3.setRow B1 (dvCells nilS dvNil nilS nilS).toArray) = w4 at *
        refine bodyPost_ret (results_ob_tmp Try.results20 _ _ B1 (dvCells nilS dvNil nilS nilS) 27 _ rfl (HS3.out.get 1 rfl) HUD.out rfl info_dv) rfl ?_
        exact DvPost.none (by unfold writeR; rw [if_neg HX.out, if_neg HY.out, if_pos HZ.out]) HS3.out.old
      case neg =>
        have HZ := Lib.hid hl
        have hql : (d.writes == 1099511627776) = false := by rw [beq_eq_false_iff_ne]; exact hl
        have hwr : IntKind.i64.wrap (d.writes + 1) = d.writes + 1 := by rw [IntKind.wrap_i64]; have := HOk.out.2.2.2; omega
        clear hl
        go_wp2_with (first | ((with_reducible refine wpList_load_ob 27 (.tmp 3) (w.heap.size) (dvCells (.slice pa d.pages.length pc) d (.slice ua d.unread.length uc) (.slice fa d.faults.length fc)) 27 HUD.out ?_ ?_ ?_ ?_ ?_); (exact rfl); (exact (HS2.out).get 0 rfl); (exact rfl); (exact info_dv); simp only [Act.put, List.setIfInBounds_toArray, List.set_cons_zero, List.set_cons_succ]))
        refine (HCp.out _ (HS2.out).old).mono ?_
        rintro e w20 ⟨v, rfl, p', u', f', rfl, hk⟩
        obtain ⟨a1, c1, rfl⟩ := own_slice (hk.own 0 rfl)
        obtain ⟨a2, c2, rfl⟩ := own_slice (hk.own 1 rfl)
        obtain ⟨a3, c3, rfl⟩ := own_slice (hk.own 2 rfl)
        have HS3 : Hid (Hp w [.ob (w.heap.size) 27 (dvCells (.slice pa d.pages.length pc) d (.slice ua d.unread.length uc) (.slice fa d.faults.length fc)), .ob B1 27 (dvCells nilS dvNil nilS nilS), .sl ((.slice a1 d.pages.length c1)) 9 1 (d.pages.length) (strRow d.pages), .sl ((.slice a2 d.unread.length c2)) 3 1 (d.unread.length) (intRow d.unread), .sl ((.slice a3 d.faults.length c3)) 29 6 (d.faults.length) (fltRow d.faults)] w20) := (HS2.out).join hk (three_sl (sl_plain _ _ _ _ _) (sl_plain _ _ _ _ _) (sl_plain _ _ _ _ _))
        clear HS2
        clear HCp b1 hk
        have b1 : (w20.setRow (w.heap.size) (dvCells (.slice a1 d.pages.length c1) d (.slice a2 d.unread.length c2) (.slice a3 d.faults.length c3)).toArray).cell? ⟨w.heap.size, 1, none⟩ = some (.int .i64 d.writes) := ((HS3.out).row 0 rfl (dvCells (.slice a1 d.pages.length c1) d (.slice a2 d.unread.length c2) (.slice a3 d.faults.length c3))).at 0 rfl 1 rfl
        have f1 : (w20.setRow (w.heap.size) (dvCells (.slice a1 d.pages.length c1) d (.slice a2 d.unread.length c2) (.slice a3 d.faults.length c3)).toArray).frozen? ⟨w.heap.size, 1, none⟩ = false := ((HS3.out).row 0 rfl (dvCells (.slice a1 d.pages.length c1) d (.slice a2 d.unread.length c2) (.slice a3 d.faults.length c3))).frozen 0 rfl 1
        have HS5 : Hid (Hp w [.ob w.heap.size 27 (dvCells (.slice a1 d.pages.length c1) (⟨d.pages, d.writes + 1, d.unread, d.dead, d.faults⟩ : Dv) (.slice a2 d.unread.length c2) (.slice a3 d.faults.length c3)), .ob B1 27 (dvCells nilS dvNil nilS nilS), .sl (.slice a1 d.pages.length c1) 9 1 d.pages.length (strRow d.pages), .sl (.slice a2 d.unread.length c2) 3 1 d.unread.length (intRow d.unread), .sl (.slice a3 d.faults.length c3) 29 6 d.faults.length (fltRow d.faults)] ((w20.setRow (w.heap.size) (dvCells (.slice a1 d.pages.length c1) d (.slice a2 d.unread.length c2) (.slice a3 d.faults.length c3)).toArray).setCell ⟨w.heap.size, 1, none⟩ (.int .i64 (d.writes + 1)))) := ((HS3.out).row 0 rfl (dvCells (.slice a1 d.pages.length c1) d (.slice a2 d.unread.length c2) (.slice a3 d.faults.length c3))).set 0 rfl 1 (.int .i64 (d.writes + 1))
        have b4 := HS5.out.at 0 rfl 4 rfl
        go_wp2_with (first | ((with_reducible refine wpList_store_ob 27 (.tmp 3) (w.heap.size) (dvCells (.slice a1 d.pages.length c1) d (.slice a2 d.unread.length c2) (.slice a3 d.faults.length c3)) (dvCells (.slice pa d.pages.length pc) d (.slice ua d.unread.length uc) (.slice fa d.faults.length fc)) 27 ?_ ?_ ?_ ?_ ?_ ?_ ?_); (exact rfl); (exact rfl); (exact (HS3.out).get 0 rfl); (exact info_dv); (exact rfl); (exact (oneCell_dv _ _ _ _ _ _ _ _ _ _)); skip))
        clear b1 f1 b4 HS3
        generalize (w20.setRow (w.heap.size) (dvCells (.slice a1 d.pages.length c1) d (.slice a2 d.unread.length c2) (.slice a3 d.faults.length c3)).toArray).setCell ⟨w.heap.size, 1, none⟩ (.int .i64 (d.writes + 1)) = w5 at *
        have HS6 : Hid (Hp w (DvTh w.heap.size (.slice a1 d.pages.length c1) (.slice a2 d.unread.length c2) (.slice a3 d.faults.length c3) (⟨d.pages, d.writes + 1, d.unread, d.dead, d.faults⟩ : Dv) [.ob B1 27 (dvCells nilS dvNil nilS nilS), .sl (.slice a3 d.faults.length c3) 29 6 d.faults.length (fltRow d.faults)]) w5) := HS5.out.pull [0, 2, 3, 1, 4] rfl (pull_nd HS5.out.nd [0, 2, 3, 1, 4] rfl (by decide))
        clear HS5
        obtain ⟨R3, hr3, hi3, _⟩ := own_reads (HS6.out.own 4 rfl)
        refine (cloneF_any d.faults _ R3 w5 hr3 hi3 HLf.out).mono ?_
        rintro e w6 ⟨v6, rfl, hb6, ho6⟩
        have HS7 : Hid (Hp w (DvTh w.heap.size (.slice a1 d.pages.length c1) (.slice a2 d.unread.length c2) (.slice a3 d.faults.length c3) (⟨d.pages, d.writes + 1, d.unread, d.dead, d.faults⟩ : Dv) [.ob B1 27 (dvCells nilS dvNil nilS nilS), .sl (.slice a3 d.faults.length c3) 29 6 d.faults.length (fltRow d.faults), .sl v6 29 6 d.faults.length (fltRow d.faults)]) w6) := HS6.out.addown hb6 ho6
        clear HS6 hr3 hi3 hb6 ho6
        have hfn1 : FltFnX 42 #[.pointer (some ⟨w.heap.size, 0, none⟩)] (fun x => decide (¬ x.at_ = d.writes + 1)) d.faults v6.ownBlock w6 := fun W x hx hgr => w1_any x (d.writes + 1) w.heap.size W (by
          rw [World.cell?_of_block (a := ⟨w.heap.size, 1, none⟩) (hgr.block w.heap.size (HS7.out.lt 0 rfl rfl).2 (fun e => HS7.out.ne 0 5 rfl rfl (by decide) rfl e.symm rfl))]
          exact HS7.out.at 0 rfl 1 rfl)
        go_wp2_with fail
        refine (delFlt_own _ _ _ d.faults v6 w.heap.size w6 enters_w1 (HS7.out.own 5 rfl) hfn1 HLf.out).mono ?_
        rintro e w7 ⟨v7, rfl, ho7, hgr7, hbl7⟩
        rw [now_eq] at ho7
        have HS8 : Hid (Hp w (DvTh w.heap.size (.slice a1 d.pages.length c1) (.slice a2 d.unread.length c2) (.slice a3 d.faults.length c3) (⟨d.pages, d.writes + 1, d.unread, d.dead, d.faults⟩ : Dv) [.ob B1 27 (dvCells nilS dvNil nilS nilS), .sl (.slice a3 d.faults.length c3) 29 6 d.faults.length (fltRow d.faults), .sl v7 29 6 (nowR d).length (fltRow (nowR d))]) w7) := HS7.out.grown 5 rfl ho7 hgr7 (.inl hbl7)
        clear HS7 hfn1 ho7 hgr7 hbl7
        have hfn2 : FltFnX 43 #[.pointer (some ⟨w.heap.size, 0, none⟩)] (fun x => decide (x.at_ = d.writes + 1)) d.faults ((.slice a3 d.faults.length c3) : Value).ownBlock w7 := fun W x hx hgr => w2_any x (d.writes + 1) w.heap.size W (by
          rw [World.cell?_of_block (a := ⟨w.heap.size, 1, none⟩) (hgr.block w.heap.size (HS8.out.lt 0 rfl rfl).2 (fun e => HS8.out.ne 0 4 rfl rfl (by decide) rfl e.symm rfl))]
          exact HS8.out.at 0 rfl 1 rfl)
        have b4 := HS8.out.at 0 rfl 4 rfl
        go_wp2_with fail
        refine (delFlt_own _ _ _ d.faults (.slice a3 d.faults.length c3) w.heap.size w7 enters_w2 (HS8.out.own 4 rfl) hfn2 HLf.out).mono ?_
        rintro e w8 ⟨v8, rfl, ho8, hgr8, hbl8⟩
        rw [show (d.faults.filter fun x => !decide (x.at_ = d.writes + 1)) = laterR d from rfl] at ho8
        obtain ⟨a8, c8, rfl⟩ := own_slice ho8
        have HS9 : Hid (Hp w (DvTh w.heap.size (.slice a1 d.pages.length c1) (.slice a2 d.unread.length c2) (.slice a3 d.faults.length c3) (⟨d.pages, d.writes + 1, d.unread, d.dead, d.faults⟩ : Dv) [.ob B1 27 (dvCells nilS dvNil nilS nilS), .sl (.slice a8 (laterR d).length c8) 29 6 (laterR d).length (fltRow (laterR d)), .sl v7 29 6 (nowR d).length (fltRow (nowR d))]) w8) := HS8.out.grown 4 rfl ho8 hgr8 (.inl hbl8)
        clear HS8 hfn2 ho8 hgr8 hbl8 b4
        have b4 := HS9.out.at 0 rfl 4 rfl
        have f4 := HS9.out.frozen 0 rfl 4
        have HS10 : Hid (Hp w (DvTh w.heap.size (.slice a1 d.pages.length c1) (.slice a2 d.unread.length c2) (.slice a8 (laterR d).length c8) (⟨d.pages, d.writes + 1, d.unread, d.dead, laterR d⟩ : Dv) [.ob B1 27 (dvCells nilS dvNil nilS nilS), .sl (.slice a8 (laterR d).length c8) 29 6 (laterR d).length (fltRow (laterR d)), .sl v7 29 6 (nowR d).length (fltRow (nowR d))]) (w8.setCell ⟨w.heap.size, 4, none⟩ (.slice a8 (laterR d).length c8))) := HS9.out.set 0 rfl 4 (.slice a8 (laterR d).length c8)
        go_wp2_with fail
        clear b4 f4 HS9
        generalize w8.setCell ⟨w.heap.size, 4, none⟩ (.slice a8 (laterR d).length c8) = w10 at *
        obtain ⟨a7, c7, rfl⟩ := own_slice (HS10.out.own 5 rfl)
        have HNl : Hid ((nowR d).length ≤ 64) := Nat.le_trans (List.length_filter_le _ _) HOk.out.2.2.1
        have HNx : Hid (∀ x ∈ nowR d, ((0 ≤ x.target ∧ x.target < (d.pages.length : Int)) ∧ (0 ≤ x.byte ∧ x.byte < 256) ∧ (0 ≤ x.page ∧ x.page < (d.pages.length : Int))) ∧ (0 ≤ x.mask ∧ x.mask < 256)) := fun x hx => ⟨flt_ranges (HOk.out.2.2.2.2.2 x (List.mem_filter.1 hx).1), mask_rng (HGf.out x (List.mem_filter.1 hx).1)⟩
        obtain ⟨R7, hr7, hi7, _⟩ := own_reads (HS10.out.own 5 rfl)
        refine (fate_any (nowR d) _ R7 w10 hr7 hi7 (by have := HNl.out; omega)).mono ?_
        rintro e w11 ⟨rfl, hb11⟩
        have HS11 := Lib.hid (HS10.out.calls hb11)
        clear HS10 hb11 hr7 hi7
        have HI2 : Hid (DvInv d.pages.length 64 (⟨d.pages, d.writes + 1, d.unread, d.dead, laterR d⟩ : Dv)) := ⟨rfl, HOk.out.1.all, HOk.out.1.asc, HOk.out.1.few⟩
        have hcar := carry_any s k (nowR d) HS11.out HI2.out (by have := HOk.out.2.1; omega) (by decide) HKn.out HSz.out (fun x hx => ⟨(HNx.out x hx).1.1, (HNx.out x hx).1.2.1⟩)
        have HI3 : Hid (DvInv d.pages.length 64 (landR (⟨d.pages, d.writes + 1, d.unread, d.dead, laterR d⟩ : Dv) k s (nowR d))) := land_inv HI2.out k ⟨by omega, by have := HKn.out; omega⟩ s HSz.out _ (fun x hx => ⟨(HNx.out x hx).1.1, (HNx.out x hx).1.2.1⟩)
        have HRes : Hid (writeR d k s = ((nowR d).foldl happenR (landR (⟨d.pages, d.writes + 1, d.unread, d.dead, laterR d⟩ : Dv) k s (nowR d)), 0)) := by
          show _ = _
          unfold writeR
          rw [if_neg HX.out, if_neg HY.out, if_neg HZ.out]
        go_wp2_with fail
        refine hcar.mono ?_
        rintro e w12 ⟨rfl, u12, h12⟩
        have HS12 := Lib.hid h12
        clear hcar h12 HS11
        have HF3 : Hid ((landR (⟨d.pages, d.writes + 1, d.unread, d.dead, laterR d⟩ : Dv) k s (nowR d)).faults = laterR d) := land_faults _ _ _ _
        generalize landR (⟨d.pages, d.writes + 1, d.unread, d.dead, laterR d⟩ : Dv) k s (nowR d) = d3 at *
        obtain ⟨l, hll⟩ : ∃ l, nowR d = l := ⟨_, rfl⟩
        rw [hll] at HS12 HRes HNx HNl
        go_wp2_with fail
        clear hll HI2 HKn HSz hsm hwr hq hqs hql
        go_loopw [52] (fun i wr => ∃ (j : Nat) (uv : Value), j ≤ l.length ∧ i = .int .i64 j ∧ Hp w (DvTh w.heap.size (.slice a1 d.pages.length c1) uv (.slice a8 (laterR d).length c8) ((l.take j).foldl happenR d3) [.ob B1 27 (dvCells nilS dvNil nilS nilS), .sl (.slice a8 (laterR d).length c8) 29 6 (laterR d).length (fltRow (laterR d)), .sl (.slice a7 l.length c7) 29 6 l.length (fltRow l)]) wr) (fun i _ => l.length - (intOf i).toNat)
        case atStart => exact ⟨0, u12, by omega, rfl, HS12.out⟩
        case round =>
          obtain ⟨j, uv, hj, rfl, hs⟩ := hrel
          have HY2 := Lib.hid hs
          clear hs HS12
          by_cases hlt : j < l.length
          · have ho := HY2.out.own 5 rfl
            rcases ho.2 with ⟨_, h0⟩ | ⟨gq, cq, curq, hvq, hBq, hgq, hq1, hq2, hq3, hq4⟩
            · omega
            have ea : a7 = some ⟨gq, 0, none⟩ := by injection hvq
            subst ea
            obtain ⟨x, hx⟩ : ∃ x, l[j] = x := ⟨_, rfl⟩
            have hcells : Hid (wr.rangeAt gq (j * 6) (fltCells x)) := own_range ho rfl (j * 6) (fltCells x) (fun t v hv => fltRow_at l j hlt t v (by rw [hx]; exact hv))
            clear ho hvq hBq hgq hq1 hq2 hq3 hq4
            have hji : (j : Int) < (l.length : Int) := by omega
            have hj0 : (0 : Int) ≤ (j : Int) := by omega
            have hjm : (j : Int) < 1001 := by have := HNl.out; omega
            have HSt : Hid ((l.take (j + 1)).foldl happenR d3 = happenR ((l.take j).foldl happenR d3) x) := by
              show _ = _
              rw [List.take_succ_eq_append_getElem hlt, List.foldl_append, hx]
              rfl
            have hfi := fold_inv (l.take j) HI3.out
            have hxm : x ∈ l := by rw [← hx]; exact List.getElem_mem hlt
            have HStr : Hid (StrOk ((l.take j).foldl happenR d3) x) := ⟨by rw [hfi.num]; have := HOk.out.2.1; omega, hfi.all, hfi.asc, by have h1 := hfi.few; have h2 := HNl.out; rw [List.length_take] at h1; omega, by rw [hfi.num]; exact (HNx.out x hxm).1.2.2, (HNx.out x hxm).1.2.1, (HNx.out x hxm).2⟩
            clear hfi hxm hx
            have hrow : ((wr.alloc (.cells (fltCells fltNil).toArray 29)).setRow wr.heap.size (fltCells x).toArray).heap[wr.heap.size]? = some (.cells (fltCells x).toArray 29 (0, 0)) := setRow_heap _ _ _ _ _ _ (heap_alloc_last wr _)
            have HRow := Lib.hid hrow
            have HB3 := Lib.hid (HY2.out.calls (below_setRow ((Below.refl wr.heap.size wr).alloc (Nat.le_refl _) _) (Nat.le_refl _) (fltCells x).toArray) : Hp w _ ((wr.alloc (.cells (fltCells fltNil).toArray 29)).setRow wr.heap.size (fltCells x).toArray))
            have hstr := strike_any x HB3.out HStr.out
            clear hrow
            go_wp2_with (first | ((with_reducible refine wpList_load_at 29 (.tmp 54) gq (j * 6) (fltCells x) HUF.out ?_ ?_ ?_ ?_ ?_); (exact rfl); (exact hcells.out); (exact rfl); (exact info_flt); simp only [Act.put, List.setIfInBounds_toArray, List.set_cons_zero, List.set_cons_succ]) | ((with_reducible refine wpList_alloc_ob 29 (fltCells fltNil) ?_ ?_); (exact alloc_flt); simp only [Act.put, List.setIfInBounds_toArray, List.set_cons_zero, List.set_cons_succ]) | ((with_reducible refine wpList_store_ob 29 (.tmp 11) wr.heap.size (fltCells x) (fltCells fltNil) 29 ?_ ?_ ?_ ?_ ?_ ?_ ?_); (exact rfl); (exact rfl); (exact heap_alloc_last wr _); (exact info_flt); (exact rfl); (exact oneCell_flt _); skip) | ((with_reducible refine wpList_load_ob 29 (.tmp 11) wr.heap.size (fltCells x) 29 HUF.out ?_ ?_ ?_ ?_ ?_); (exact rfl); (exact HRow.out); (exact rfl); (exact info_flt); simp only [Act.put, List.setIfInBounds_toArray, List.set_cons_zero, List.set_cons_succ]))
            refine hstr.mono ?_
            rintro e w14 ⟨rfl, u14, h14⟩
            rw [← HSt.out] at h14
            have HS14 := Lib.hid h14
            clear h14 hstr HB3 HY2 HRow
            go_wp2_with fail
            go_roundw
            case rel => exact ⟨j + 1, u14, by omega, by go_num, HS14.out⟩
            case measure => simp [intOf]; omega
          · obtain rfl : j = l.length := by omega
            rw [List.take_length] at HY2
            have HFz : Hid ((l.foldl happenR d3).faults = laterR d) := by show _ = _; rw [fold_faults, HF3.out]
            generalize l.foldl happenR d3 = dz at *
            obtain ⟨az, cz, rfl⟩ := own_slice (HY2.out.own 2 rfl)
            go_wp2_with (first | ((with_reducible refine wpList_load_ob 27 (.tmp 3) w.heap.size (dvCells (.slice a1 d.pages.length c1) dz (.slice az dz.unread.length cz) (.slice a8 (laterR d).length c8)) 27 HUD.out ?_ ?_ ?_ ?_ ?_); (exact rfl); (exact HY2.out.get 0 rfl); (exact rfl); (exact info_dv); simp only [Act.put, List.setIfInBounds_toArray, List.set_cons_zero, List.set_cons_succ]) | ((with_reducible refine wpList_store_ob 27 (.tmp 6) B1 (dvCells (.slice a1 d.pages.length c1) dz (.slice az dz.unread.length cz) (.slice a8 (laterR d).length c8)) (dvCells nilS dvNil nilS nilS) 27 ?_ ?_ ?_ ?_ ?_ ?_ ?_); (exact rfl); (exact rfl); (exact HY2.out.get 3 rfl); (exact info_dv); (exact rfl); (exact (oneCell_dv _ _ _ _ _ _ _ _ _ _)); skip))
            have HF : Hid (Hp w [.ob w.heap.size 27 (dvCells (.slice a1 d.pages.length c1) dz (.slice az dz.unread.length cz) (.slice a8 (laterR d).length c8)), .sl (.slice a1 d.pages.length c1) 9 1 dz.pages.length (strRow dz.pages), .sl (.slice az dz.unread.length cz) 3 1 dz.unread.length (intRow dz.unread), .ob B1 27 (dvCells (.slice a1 d.pages.length c1) dz (.slice az dz.unread.length cz) (.slice a8 (laterR d).length c8)), .sl (.slice a8 (laterR d).length c8) 29 6 (laterR d).length (fltRow (laterR d)), .sl (.slice a7 l.length c7) 29 6 l.length (fltRow l)] (wr.setRow B1 (dvCells (.slice a1 d.pages.length c1) dz (.slice az dz.unread.length cz) (.slice a8 (laterR d).length c8)).toArray)) := HY2.out.row 3 rfl (dvCells (.slice a1 d.pages.length c1) dz (.slice az dz.unread.length cz) (.slice a8 (laterR d).length c8))
            clear HY2
            generalize wr.setRow B1 (dvCells (.slice a1 d.pages.length c1) dz (.slice az dz.unread.length cz) (.slice a8 (laterR d).length c8)).toArray = w15 at *
            refine bodyPost_ret (results_ob_tmp Try.results20 _ _ B1 (dvCells (.slice a1 d.pages.length c1) dz (.slice az dz.unread.length cz) (.slice a8 (laterR d).length c8)) 27 _ rfl (HF.out.get 3 rfl) HUD.out rfl info_dv) rfl ?_
            obtain ⟨R', hrd, hin, hnew⟩ := own_dv (d := dz) (HF.out.own 1 rfl) (HF.out.own 2 rfl) (by rw [HFz.out]; exact HF.out.own 4 rfl)
            rw [HRes.out]
            exact ⟨_, _, _, R', rfl, hrd, hin, fun r hr => .inl (hnew r hr), HF.out.old⟩
end Go.Proofs.Ythcjkbhkidijoaa
/- the program's Tear -/
namespace Go.Proofs.Ythcjkbhkidijoaa
open Go.RowKit
set_option maxRecDepth 20000
set_option linter.unusedSimpArgs false
set_option linter.unusedVariables false

set_option maxHeartbeats 16000000 in
theorem tear_any {p u f : Value} {d : Dv} {R : List Rng} (page : Int) (s : ByteArray) (cut : Int) (w : World) (h : DvRd p u f d R) (hR : RdIn w R) (hg : GoodDv d) (hss : s.size ≤ maxLen) (hp : d.pages.length ≤ 1000) (hf : d.faults.length ≤ 1000) :
    Calls Try.prog 27 #[.agg (dvCells p d u f).toArray, .int .i64 page, .string s, .int .i64 cut] w (DvPost w R (tearR d page s cut)) := by
  have HV : Hid (∀ W, Below w.heap.size w W → Calls Try.prog 38 #[.agg (dvCells p d u f).toArray, .int .i64 page] W fun e w' => e = .returned (.int .i64 (usableR d page)) ∧ Below W.heap.size W w') := fun W hb => reach_any page W h (hR.below hb) hg
  have HCp : Hid (∀ W, Below w.heap.size w W → Calls Try.prog 39 #[.agg (dvCells p d u f).toArray] W fun e w' => ∃ v, e = .returned v ∧ OwnDv W w' v d) := fun W hb => copied_any W h (hR.below hb) hp hg.unread hf
  obtain ⟨fs, hud⟩ := under_dv
  have HUD := Lib.hid hud
  obtain ⟨fs2, huf⟩ := under_flt
  have HUF := Lib.hid huf
  clear hud huf
  obtain ⟨pa, pc, rfl, hp1, hp3, hP2⟩ := h.pages.open hR
  obtain ⟨ua, uc, rfl, hu1, hu3, hU2⟩ := h.unread.open hR
  obtain ⟨fa, fc, rfl, hf1, hf3, hF2⟩ := h.faults.open hR
  clear h hR hg hP2 hU2 hF2 hf hp
  have h1 := ((Hp.start w).put 27 (dvCells (.slice pa d.pages.length pc) d (.slice ua d.unread.length uc) (.slice fa d.faults.length fc))).put 27 (dvCells nilS dvNil nilS nilS)
  simp only [World.size_alloc, List.nil_append, List.cons_append] at h1
  have HS0 : Hid (Hp w [.ob w.heap.size 27 (dvCells (.slice pa d.pages.length pc) d (.slice ua d.unread.length uc) (.slice fa d.faults.length fc)), .ob (w.heap.size + 1) 27 (dvCells nilS dvNil nilS nilS)] ((w.alloc (.cells (dvCells (.slice pa d.pages.length pc) d (.slice ua d.unread.length uc) (.slice fa d.faults.length fc)).toArray 27)).alloc (.cells #[.slice none 0 0, .int .i64 0, .slice none 0 0, .bool false, .slice none 0 0] 27))) := h1
  clear h1 hp1 hp3 hu1 hu3 hf1 hf3
  have hsm : (s.size : Int) ≤ 9223372036854775807 := by unfold maxLen at hss; omega
  clear hss
  go_enter Try.func27, Try.ntmps27
  go_wp2_with (first | ((with_reducible refine wpList_load_ob 27 (.tmp 4) (w.heap.size) (dvCells (.slice pa d.pages.length pc) d (.slice ua d.unread.length uc) (.slice fa d.faults.length fc)) 27 HUD.out ?_ ?_ ?_ ?_ ?_); (exact rfl); (exact (HS0.out).get 0 rfl); (exact rfl); (exact info_dv); simp only [Act.put, List.setIfInBounds_toArray, List.set_cons_zero, List.set_cons_succ]))
  refine (HV.out _ (HS0.out).old).mono ?_
  rintro e w3 ⟨rfl, hb⟩
  have HS2 : Hid (Hp w [.ob (w.heap.size) 27 (dvCells (.slice pa d.pages.length pc) d (.slice ua d.unread.length uc) (.slice fa d.faults.length fc)), .ob ((w.heap.size + 1)) 27 (dvCells nilS dvNil nilS nilS)] w3) := (HS0.out).calls hb
  clear hb
  clear HS0
  generalize (w.heap.size + 1) = B1 at *
  clear HV
  by_cases hv : usableR d page = 0
  case neg =>
    have HX := Lib.hid hv
    have hq : (usableR d page != 0) = true := by rw [bne_iff_ne]; exact hv
    clear hv
    go_wp2_with (first | ((with_reducible refine wpList_build_v 27 (.agg (dvCells nilS dvNil nilS nilS).toArray) ?_ ?_); (intro W; simp only [List.map_toArray, List.map_cons, List.map_nil]; exact build_dv0 W); simp only [Act.put, List.setIfInBounds_toArray, List.set_cons_zero, List.set_cons_succ]) | ((with_reducible refine wpList_store_ob 27 (.tmp 8) B1 (dvCells nilS dvNil nilS nilS) (dvCells nilS dvNil nilS nilS) 27 ?_ ?_ ?_ ?_ ?_ ?_ ?_); (exact rfl); (exact rfl); (exact (HS2.out).get 1 rfl); (exact info_dv); (exact rfl); (exact (oneCell_dv _ _ _ _ _ _ _ _ _ _)); skip))
    have HS3 : Hid (Hp w [.ob (w.heap.size) 27 (dvCells (.slice pa d.pages.length pc) d (.slice ua d.unread.length uc) (.slice fa d.faults.length fc)), .ob B1 27 (dvCells nilS dvNil nilS nilS)] (w3.setRow B1 (dvCells nilS dvNil nilS nilS).toArray)) := (HS2.out).row 1 rfl (dvCells nilS dvNil nilS nilS)
    clear HS2
    generalize (w3.setRow B1 (dvCells nilS dvNil nilS nilS).toArray) = w4 at *
    refine bodyPost_ret (results_ob_tmp Try.results27 _ _ B1 (dvCells nilS dvNil nilS nilS) 27 _ rfl (HS3.out.get 1 rfl) HUD.out rfl info_dv) rfl ?_
    exact DvPost.none (by unfold tearR; rw [if_pos HX.out]) HS3.out.old
  case pos =>
    have HX : Hid (¬ usableR d page ≠ 0) := fun h => h hv
    have hq : (usableR d page != 0) = false := by rw [hv]; rfl
    obtain ⟨hok, hdd, g0, g1⟩ := usable_ok hv
    have HOk := Lib.hid (ok_inv hok)
    obtain ⟨k, rfl⟩ := Int.eq_ofNat_of_zero_le g0
    have HKn : Hid (k < d.pages.length) := by show _ < _; omega
    clear hv hok hdd g0 g1
    by_cases hc1 : cut < 0
    case pos =>
      have HY := Lib.hid hc1
      go_wp2_with (first | ((with_reducible refine wpList_build_v 27 (.agg (dvCells nilS dvNil nilS nilS).toArray) ?_ ?_); (intro W; simp only [List.map_toArray, List.map_cons, List.map_nil]; exact build_dv0 W); simp only [Act.put, List.setIfInBounds_toArray, List.set_cons_zero, List.set_cons_succ]) | ((with_reducible refine wpList_store_ob 27 (.tmp 8) B1 (dvCells nilS dvNil nilS nilS) (dvCells nilS dvNil nilS nilS) 27 ?_ ?_ ?_ ?_ ?_ ?_ ?_); (exact rfl); (exact rfl); (exact (HS2.out).get 1 rfl); (exact info_dv); (exact rfl); (exact (oneCell_dv _ _ _ _ _ _ _ _ _ _)); skip))
      have HS3 : Hid (Hp w [.ob (w.heap.size) 27 (dvCells (.slice pa d.pages.length pc) d (.slice ua d.unread.length uc) (.slice fa d.faults.length fc)), .ob B1 27 (dvCells nilS dvNil nilS nilS)] (w3.setRow B1 (dvCells nilS dvNil nilS nilS).toArray)) := (HS2.out).row 1 rfl (dvCells nilS dvNil nilS nilS)
      clear HS2
      generalize (w3.setRow B1 (dvCells nilS dvNil nilS nilS).toArray) = w4 at *
      refine bodyPost_ret (results_ob_tmp Try.results27 _ _ B1 (dvCells nilS dvNil nilS nilS) 27 _ rfl (HS3.out.get 1 rfl) HUD.out rfl info_dv) rfl ?_
      exact DvPost.none (by unfold tearR; rw [if_neg HX.out, if_pos (.inl HY.out)]) HS3.out.old
    case neg =>
      by_cases hc2 : 256 < cut
      case pos =>
        have HY := Lib.hid hc2
        go_wp2_with (first | ((with_reducible refine wpList_build_v 27 (.agg (dvCells nilS dvNil nilS nilS).toArray) ?_ ?_); (intro W; simp only [List.map_toArray, List.map_cons, List.map_nil]; exact build_dv0 W); simp only [Act.put, List.setIfInBounds_toArray, List.set_cons_zero, List.set_cons_succ]) | ((with_reducible refine wpList_store_ob 27 (.tmp 8) B1 (dvCells nilS dvNil nilS nilS) (dvCells nilS dvNil nilS nilS) 27 ?_ ?_ ?_ ?_ ?_ ?_ ?_); (exact rfl); (exact rfl); (exact (HS2.out).get 1 rfl); (exact info_dv); (exact rfl); (exact (oneCell_dv _ _ _ _ _ _ _ _ _ _)); skip))
        have HS3 : Hid (Hp w [.ob (w.heap.size) 27 (dvCells (.slice pa d.pages.length pc) d (.slice ua d.unread.length uc) (.slice fa d.faults.length fc)), .ob B1 27 (dvCells nilS dvNil nilS nilS)] (w3.setRow B1 (dvCells nilS dvNil nilS nilS).toArray)) := (HS2.out).row 1 rfl (dvCells nilS dvNil nilS nilS)
        clear HS2
        generalize (w3.setRow B1 (dvCells nilS dvNil nilS nilS).toArray) = w4 at *
        refine bodyPost_ret (results_ob_tmp Try.results27 _ _ B1 (dvCells nilS dvNil nilS nilS) 27 _ rfl (HS3.out.get 1 rfl) HUD.out rfl info_dv) rfl ?_
        exact DvPost.none (by unfold tearR; rw [if_neg HX.out, if_pos (.inr HY.out)]) HS3.out.old
      case neg =>
        obtain ⟨t, rfl⟩ := Int.eq_ofNat_of_zero_le (show 0 ≤ cut by omega)
        have HT : Hid (t ≤ 256) := by show _ ≤ _; omega
        have HY : Hid (¬ ((t : Int) < 0 ∨ 256 < (t : Int))) := fun h => h.elim hc1 hc2
        have ht0 : (0 : Int) ≤ (t : Int) := by omega
        have ht1 : (t : Int) ≤ 256 := by omega
        clear hc1 hc2
        by_cases hz : s.size = 256
        case neg =>
          have HZ := Lib.hid hz
          have hqs : ((s.size : Int) != 256) = true := by rw [bne_iff_ne]; omega
          clear hz
          go_wp2_with (first | ((with_reducible refine wpList_build_v 27 (.agg (dvCells nilS dvNil nilS nilS).toArray) ?_ ?_); (intro W; simp only [List.map_toArray, List.map_cons, List.map_nil]; exact build_dv0 W); simp only [Act.put, List.setIfInBounds_toArray, List.set_cons_zero, List.set_cons_succ]) | ((with_reducible refine wpList_store_ob 27 (.tmp 8) B1 (dvCells nilS dvNil nilS nilS) (dvCells nilS dvNil nilS nilS) 27 ?_ ?_ ?_ ?_ ?_ ?_ ?_); (exact rfl); (exact rfl); (exact (HS2.out).get 1 rfl); (exact info_dv); (exact rfl); (exact (oneCell_dv _ _ _ _ _ _ _ _ _ _)); skip))
          have HS3 : Hid (Hp w [.ob (w.heap.size) 27 (dvCells (.slice pa d.pages.length pc) d (.slice ua d.unread.length uc) (.slice fa d.faults.length fc)), .ob B1 27 (dvCells nilS dvNil nilS nilS)] (w3.setRow B1 (dvCells nilS dvNil nilS nilS).toArray)) := (HS2.out).row 1 rfl (dvCells nilS dvNil nilS nilS)
          clear HS2
          generalize (w3.setRow B1 (dvCells nilS dvNil nilS nilS).toArray) = w4 at *
          refine bodyPost_ret (results_ob_tmp Try.results27 _ _ B1 (dvCells nilS dvNil nilS nilS) 27 _ rfl (HS3.out.get 1 rfl) HUD.out rfl info_dv) rfl ?_
          exact DvPost.none (by unfold tearR; rw [if_neg HX.out, if_neg HY.out, if_pos HZ.out]) HS3.out.old
        case pos =>
          have HZ : Hid (¬ s.size ≠ 256) := fun h => h hz
          have HSz := Lib.hid hz
          have hts : (t : Int) ≤ (s.size : Int) := by omega
          have hqs : ((s.size : Int) != 256) = false := by rw [hz]; rfl
          clear hz
          go_wp2_with (first | ((with_reducible refine wpList_load_ob 27 (.tmp 4) (w.heap.size) (dvCells (.slice pa d.pages.length pc) d (.slice ua d.unread.length uc) (.slice fa d.faults.length fc)) 27 HUD.out ?_ ?_ ?_ ?_ ?_); (exact rfl); (exact (HS2.out).get 0 rfl); (exact rfl); (exact info_dv); simp only [Act.put, List.setIfInBounds_toArray, List.set_cons_zero, List.set_cons_succ]))
          refine (HCp.out _ (HS2.out).old).mono ?_
          rintro e w20 ⟨v, rfl, p', u', f', rfl, hk⟩
          obtain ⟨a1, c1, rfl⟩ := own_slice (hk.own 0 rfl)
          obtain ⟨a2, c2, rfl⟩ := own_slice (hk.own 1 rfl)
          obtain ⟨a3, c3, rfl⟩ := own_slice (hk.own 2 rfl)
          have HS3 : Hid (Hp w [.ob (w.heap.size) 27 (dvCells (.slice pa d.pages.length pc) d (.slice ua d.unread.length uc) (.slice fa d.faults.length fc)), .ob B1 27 (dvCells nilS dvNil nilS nilS), .sl ((.slice a1 d.pages.length c1)) 9 1 (d.pages.length) (strRow d.pages), .sl ((.slice a2 d.unread.length c2)) 3 1 (d.unread.length) (intRow d.unread), .sl ((.slice a3 d.faults.length c3)) 29 6 (d.faults.length) (fltRow d.faults)] w20) := (HS2.out).join hk (three_sl (sl_plain _ _ _ _ _) (sl_plain _ _ _ _ _) (sl_plain _ _ _ _ _))
          clear HS2
          clear HCp hk
          go_wp2_with (first | ((with_reducible refine wpList_store_ob 27 (.tmp 4) (w.heap.size) (dvCells (.slice a1 d.pages.length c1) d (.slice a2 d.unread.length c2) (.slice a3 d.faults.length c3)) (dvCells (.slice pa d.pages.length pc) d (.slice ua d.unread.length uc) (.slice fa d.faults.length fc)) 27 ?_ ?_ ?_ ?_ ?_ ?_ ?_); (exact rfl); (exact rfl); (exact (HS3.out).get 0 rfl); (exact info_dv); (exact rfl); (exact (oneCell_dv _ _ _ _ _ _ _ _ _ _)); skip))
          have HS5 : Hid (Hp w [.ob w.heap.size 27 (dvCells (.slice a1 d.pages.length c1) d (.slice a2 d.unread.length c2) (.slice a3 d.faults.length c3)), .ob B1 27 (dvCells nilS dvNil nilS nilS), .sl (.slice a1 d.pages.length c1) 9 1 d.pages.length (strRow d.pages), .sl (.slice a2 d.unread.length c2) 3 1 d.unread.length (intRow d.unread), .sl (.slice a3 d.faults.length c3) 29 6 d.faults.length (fltRow d.faults)] (w20.setRow (w.heap.size) (dvCells (.slice a1 d.pages.length c1) d (.slice a2 d.unread.length c2) (.slice a3 d.faults.length c3)).toArray)) := (HS3.out).row 0 rfl (dvCells (.slice a1 d.pages.length c1) d (.slice a2 d.unread.length c2) (.slice a3 d.faults.length c3))
          clear HS3
          generalize w20.setRow (w.heap.size) (dvCells (.slice a1 d.pages.length c1) d (.slice a2 d.unread.length c2) (.slice a3 d.faults.length c3)).toArray = w5 at *
          have HS6 : Hid (Hp w (DvTh w.heap.size (.slice a1 d.pages.length c1) (.slice a2 d.unread.length c2) (.slice a3 d.faults.length c3) d [.ob B1 27 (dvCells nilS dvNil nilS nilS), .sl (.slice a3 d.faults.length c3) 29 6 d.faults.length (fltRow d.faults)]) w5) := HS5.out.pull [0, 2, 3, 1, 4] rfl (pull_nd HS5.out.nd [0, 2, 3, 1, 4] rfl (by decide))
          clear HS5
          have hput := put_any (s.extract 0 t) k HS6.out HKn.out HOk.out.1.all (by rw [ByteArray.size_extract]; have := HT.out; omega) (by have := HOk.out.1.few; omega) (by have := HOk.out.2.1; omega)
          rw [dput_place s k t HSz.out HT.out] at hput
          refine hput.mono ?_
          rintro e w12 ⟨rfl, u12, h12⟩
          have HFz : Hid ((placeR d k s t).faults = d.faults) := rfl
          have HRes : Hid (tearR d k s t = (placeR d k s t, 0)) := by
            show _ = _
            unfold tearR
            rw [if_neg HX.out, if_neg HY.out, if_neg HZ.out, Int.toNat_natCast]
          generalize placeR d k s t = dz at *
          have HY2 := Lib.hid h12
          clear hput h12 HS6
          obtain ⟨az, cz, rfl⟩ := own_slice (HY2.out.own 2 rfl)
          go_wp2_with (first | ((with_reducible refine wpList_load_ob 27 (.tmp 4) w.heap.size (dvCells (.slice a1 d.pages.length c1) dz (.slice az dz.unread.length cz) (.slice a3 d.faults.length c3)) 27 HUD.out ?_ ?_ ?_ ?_ ?_); (exact rfl); (exact HY2.out.get 0 rfl); (exact rfl); (exact info_dv); simp only [Act.put, List.setIfInBounds_toArray, List.set_cons_zero, List.set_cons_succ]) | ((with_reducible refine wpList_store_ob 27 (.tmp 8) B1 (dvCells (.slice a1 d.pages.length c1) dz (.slice az dz.unread.length cz) (.slice a3 d.faults.length c3)) (dvCells nilS dvNil nilS nilS) 27 ?_ ?_ ?_ ?_ ?_ ?_ ?_); (exact rfl); (exact rfl); (exact HY2.out.get 3 rfl); (exact info_dv); (exact rfl); (exact (oneCell_dv _ _ _ _ _ _ _ _ _ _)); skip))
          have HF : Hid (Hp w [.ob w.heap.size 27 (dvCells (.slice a1 d.pages.length c1) dz (.slice az dz.unread.length cz) (.slice a3 d.faults.length c3)), .sl (.slice a1 d.pages.length c1) 9 1 dz.pages.length (strRow dz.pages), .sl (.slice az dz.unread.length cz) 3 1 dz.unread.length (intRow dz.unread), .ob B1 27 (dvCells (.slice a1 d.pages.length c1) dz (.slice az dz.unread.length cz) (.slice a3 d.faults.length c3)), .sl (.slice a3 d.faults.length c3) 29 6 d.faults.length (fltRow d.faults)] (w12.setRow B1 (dvCells (.slice a1 d.pages.length c1) dz (.slice az dz.unread.length cz) (.slice a3 d.faults.length c3)).toArray)) := HY2.out.row 3 rfl (dvCells (.slice a1 d.pages.length c1) dz (.slice az dz.unread.length cz) (.slice a3 d.faults.length c3))
          clear HY2
          generalize w12.setRow B1 (dvCells (.slice a1 d.pages.length c1) dz (.slice az dz.unread.length cz) (.slice a3 d.faults.length c3)).toArray = w15 at *
          refine bodyPost_ret (results_ob_tmp Try.results27 _ _ B1 (dvCells (.slice a1 d.pages.length c1) dz (.slice az dz.unread.length cz) (.slice a3 d.faults.length c3)) 27 _ rfl (HF.out.get 3 rfl) HUD.out rfl info_dv) rfl ?_
          obtain ⟨R', hrd, hin, hnew⟩ := own_dv (d := dz) (HF.out.own 1 rfl) (HF.out.own 2 rfl) (by rw [HFz.out]; exact HF.out.own 4 rfl)
          rw [HRes.out]
          exact ⟨_, _, _, R', rfl, hrd, hin, fun r hr => .inl (hnew r hr), HF.out.old⟩
end Go.Proofs.Ythcjkbhkidijoaa
/- the program's blanks -/
namespace Go.Proofs.Ythcjkbhkidijoaa
open Go.RowKit
set_option maxRecDepth 20000
set_option linter.unusedSimpArgs false
set_option linter.unusedVariables false

set_option maxHeartbeats 4000000 in
theorem pblanks_k (n : Nat) (w : World) (h1 : 1 ≤ n) (hn : n ≤ 64) :
    Calls Try.prog 34 #[.int .i64 (n : Int)] w fun e w' => ∃ v, e = .returned v ∧ Below w.heap.size w w' ∧ w'.ownsRow w.heap.size 9 1 v n (strRow (List.replicate n blankPg)) := by
  have HUT : Hid (Try.prog.underlying 23 = some (.slice 9)) := Try.underlying23
  obtain ⟨L0, hmk0, hcv0⟩ := made256
  have hmk := hmk0 w
  have hcv := hcv0 w
  clear hmk0 hcv0
  obtain ⟨B, hB⟩ : ∃ B, blankPg = B := ⟨_, rfl⟩
  rw [hB] at hcv
  rw [hB]
  have HN : Hid (1 ≤ n ∧ n ≤ 64) := ⟨h1, hn⟩
  have h2 := ((Hp.start w).put 5 L0).put 9 [.string B]
  simp only [World.size_alloc, List.nil_append, List.cons_append] at h2
  have HS0 : Hid (Hp w [.ob w.heap.size 5 L0, .ob (w.heap.size + 1) 9 [.string B]] ((w.alloc (.cells L0.toArray 5)).alloc (.cells #[.string B] 9))) := h2
  have hcall := repeat_any (w.heap.size + 1) B n h1 hn _ (HS0.out.at 1 rfl 0 rfl) (HS0.out.lt 1 rfl rfl).2
  have hsz : ((w.alloc (.cells L0.toArray 5)).alloc (.cells #[.string B] 9)).heap.size = w.heap.size + 1 + 1 := by simp
  rw [hsz] at hcall
  have HCall := Lib.hid hcall
  clear h1 hn h2 hB hcall hsz
  go_enter Try.func34, Try.ntmps34
  go_wp2_with (first | ((with_reducible refine wpList_build_vals 23 1 elem_s HUT.out [.string B] ?_ ?_ ?_ ?_ ?_ ?_); (exact (by intro v hv; simp only [List.mem_cons, List.not_mem_nil, or_false] at hv; subst hv; rfl)); (exact Nat.succ_pos _); (simp only [List.length_cons, List.length_nil]; omega); (exact rfl); (simp only [List.map_toArray, List.map_cons, List.map_nil, List.zipIdx_cons, List.zipIdx_nil]; exact rfl); simp only [Act.put, List.setIfInBounds_toArray, List.set_cons_zero, List.set_cons_succ]))
  refine HCall.out.mono ?_
  rintro e w4 ⟨rfl, hg, hb⟩
  have HG := Lib.hid hg
  have HB4 : Hid (Below w.heap.size w w4) := HS0.out.old.trans (hb.mono (by omega))
  have HSz : Hid (w.heap.size ≤ w.heap.size + 1 + 1) := by show _ ≤ _; omega
  clear hg hb
  go_wp2_with fail
  go_ret
  refine ⟨_, rfl, HB4.out, ⟨by simp [strRow], .inr ⟨_, n, _, rfl, HSz.out, HG.out, Nat.le_refl _, by have := HN.out; unfold maxLen; omega, by simp, ?_⟩⟩⟩
  simp [strRow]
end Go.Proofs.Ythcjkbhkidijoaa
/- the program's New -/
namespace Go.Proofs.Ythcjkbhkidijoaa
open Go.RowKit
set_option maxRecDepth 20000
set_option linter.unusedSimpArgs false
set_option linter.unusedVariables false

set_option linter.unusedSimpArgs false in
set_option maxHeartbeats 4000000 in
theorem new_dv (n : Int) (w : World) : Calls Try.prog 13 #[.int .i64 n] w (DvPost w [] (newR n)) := by
  obtain ⟨fs, hud⟩ := under_dv
  have HUD := Lib.hid hud
  clear hud
  have HS0 : Hid (Hp w [] w) := Hp.start w
  have hb0 := build_dv0
  by_cases h1 : n < 1
  · have HX := Lib.hid h1
    go_enter Try.func13, Try.ntmps13
    go_wp2_with (first | ((with_reducible refine wpList_alloc_ob 27 (dvCells nilS dvNil nilS nilS) ?_ ?_); (exact alloc_dv); simp only [Act.put, List.setIfInBounds_toArray, List.set_cons_zero, List.set_cons_succ]) | ((with_reducible refine wpList_build_v 27 (.agg (dvCells nilS dvNil nilS nilS).toArray) ?_ ?_); (intro W; simp only [List.map_toArray, List.map_cons, List.map_nil]; exact build_dv0 W); simp only [Act.put, List.setIfInBounds_toArray, List.set_cons_zero, List.set_cons_succ]) | ((with_reducible refine wpList_store_ob 27 (.tmp 2) (w.heap.size) (dvCells nilS dvNil nilS nilS) (dvCells nilS dvNil nilS nilS) 27 ?_ ?_ ?_ ?_ ?_ ?_ ?_); (exact rfl); (exact rfl); (exact ((HS0.out).put 27 (dvCells nilS dvNil nilS nilS)).get 0 rfl); (exact info_dv); (exact rfl); (exact (oneCell_dv _ _ _ _ _ _ _ _ _ _)); skip))
    have HS1 : Hid (Hp w [.ob (w.heap.size) 27 (dvCells nilS dvNil nilS nilS)] ((w.alloc (.cells (dvCells nilS dvNil nilS nilS).toArray 27)).setRow (w.heap.size) (dvCells nilS dvNil nilS nilS).toArray)) := ((HS0.out).put 27 (dvCells nilS dvNil nilS nilS)).row 0 rfl (dvCells nilS dvNil nilS nilS)
    clear HS0
    generalize ((w.alloc (.cells (dvCells nilS dvNil nilS nilS).toArray 27)).setRow (w.heap.size) (dvCells nilS dvNil nilS nilS).toArray) = w3 at *
    refine bodyPost_ret (results_ob_tmp Try.results13 _ _ (w.heap.size) (dvCells nilS dvNil nilS nilS) 27 _ rfl (HS1.out.get 0 rfl) HUD.out rfl info_dv) rfl ?_
    exact DvPost.none (by unfold newR; rw [if_pos (by exact .inl HX.out)]) HS1.out.old
  by_cases h2 : 64 < n
  · have HX := Lib.hid h2
    go_enter Try.func13, Try.ntmps13
    go_wp2_with (first | ((with_reducible refine wpList_alloc_ob 27 (dvCells nilS dvNil nilS nilS) ?_ ?_); (exact alloc_dv); simp only [Act.put, List.setIfInBounds_toArray, List.set_cons_zero, List.set_cons_succ]) | ((with_reducible refine wpList_build_v 27 (.agg (dvCells nilS dvNil nilS nilS).toArray) ?_ ?_); (intro W; simp only [List.map_toArray, List.map_cons, List.map_nil]; exact build_dv0 W); simp only [Act.put, List.setIfInBounds_toArray, List.set_cons_zero, List.set_cons_succ]) | ((with_reducible refine wpList_store_ob 27 (.tmp 2) (w.heap.size) (dvCells nilS dvNil nilS nilS) (dvCells nilS dvNil nilS nilS) 27 ?_ ?_ ?_ ?_ ?_ ?_ ?_); (exact rfl); (exact rfl); (exact ((HS0.out).put 27 (dvCells nilS dvNil nilS nilS)).get 0 rfl); (exact info_dv); (exact rfl); (exact (oneCell_dv _ _ _ _ _ _ _ _ _ _)); skip))
    have HS1 : Hid (Hp w [.ob (w.heap.size) 27 (dvCells nilS dvNil nilS nilS)] ((w.alloc (.cells (dvCells nilS dvNil nilS nilS).toArray 27)).setRow (w.heap.size) (dvCells nilS dvNil nilS nilS).toArray)) := ((HS0.out).put 27 (dvCells nilS dvNil nilS nilS)).row 0 rfl (dvCells nilS dvNil nilS nilS)
    clear HS0
    generalize ((w.alloc (.cells (dvCells nilS dvNil nilS nilS).toArray 27)).setRow (w.heap.size) (dvCells nilS dvNil nilS nilS).toArray) = w3 at *
    refine bodyPost_ret (results_ob_tmp Try.results13 _ _ (w.heap.size) (dvCells nilS dvNil nilS nilS) 27 _ rfl (HS1.out.get 0 rfl) HUD.out rfl info_dv) rfl ?_
    exact DvPost.none (by unfold newR; rw [if_pos (by exact .inr HX.out)]) HS1.out.old
  · obtain ⟨k, rfl⟩ := Int.eq_ofNat_of_zero_le (show 0 ≤ n by omega)
    have HK : Hid (k ≤ 64) := by show _ ≤ _; omega
    have HK1 : Hid (1 ≤ k) := by show _ ≤ _; omega
    have HX : Hid (newR (k : Int) = (⟨List.replicate k blankPg, 0, [], false, []⟩, 0)) := by
      show _ = _
      unfold newR
      rw [if_neg (by omega), Int.toNat_natCast]
    go_enter Try.func13, Try.ntmps13
    go_wp2_with (first | ((with_reducible refine wpList_alloc_ob 27 (dvCells nilS dvNil nilS nilS) ?_ ?_); (exact alloc_dv); simp only [Act.put, List.setIfInBounds_toArray, List.set_cons_zero, List.set_cons_succ]))
    refine (pblanks_k k _ HK1.out HK.out).mono ?_
    rintro e w3 ⟨v, rfl, hb, ho⟩
    have HS1 : Hid (Hp w [.ob (w.heap.size) 27 (dvCells nilS dvNil nilS nilS), .sl v 9 1 (k) (strRow (List.replicate k blankPg))] w3) := ((HS0.out).put 27 (dvCells nilS dvNil nilS nilS)).addown hb ho
    clear hb ho
    clear HS0
    obtain ⟨R, hrd, _, _⟩ := own_reads (HS1.out.own 1 rfl)
    obtain ⟨a, c, rfl, _⟩ := hrd
    go_wp2_with (first | ((with_reducible refine wpList_build_v 27 (.agg (dvCells (.slice a k c) dvNil nilS nilS).toArray) ?_ ?_); (intro W; simp only [List.map_toArray, List.map_cons, List.map_nil]; exact build_dv1 _ _ _ W); simp only [Act.put, List.setIfInBounds_toArray, List.set_cons_zero, List.set_cons_succ]) | ((with_reducible refine wpList_store_ob 27 (.tmp 2) (w.heap.size) (dvCells (.slice a k c) dvNil nilS nilS) (dvCells nilS dvNil nilS nilS) 27 ?_ ?_ ?_ ?_ ?_ ?_ ?_); (exact rfl); (exact rfl); (exact (HS1.out).get 0 rfl); (exact info_dv); (exact rfl); (exact (oneCell_dv _ _ _ _ _ _ _ _ _ _)); skip))
    have HS2 : Hid (Hp w [.ob (w.heap.size) 27 (dvCells (.slice a k c) dvNil nilS nilS), .sl ((.slice a k c)) 9 1 (k) (strRow (List.replicate k blankPg))] (w3.setRow (w.heap.size) (dvCells (.slice a k c) dvNil nilS nilS).toArray)) := (HS1.out).row 0 rfl (dvCells (.slice a k c) dvNil nilS nilS)
    clear HS1
    generalize (w3.setRow (w.heap.size) (dvCells (.slice a k c) dvNil nilS nilS).toArray) = w4 at *
    refine bodyPost_ret (results_ob_tmp Try.results13 _ _ (w.heap.size) (dvCells (.slice a k c) dvNil nilS nilS) 27 _ rfl (HS2.out.get 0 rfl) HUD.out rfl info_dv) rfl ?_
    obtain ⟨R', hrd', hin', hnew'⟩ := own_reads (HS2.out.own 1 rfl)
    rw [HX.out]
    exact ⟨.slice a k c, nilS, nilS, R', rfl, ⟨by show SlRd _ 1 (List.replicate k blankPg).length _ R'; rw [List.length_replicate]; exact hrd', SlRd.nil _ _, SlRd.nil _ _⟩, hin', fun r hr => .inl (hnew' r hr).1, HS2.out.old⟩
end Go.Proofs.Ythcjkbhkidijoaa
/- the program's Replace -/
namespace Go.Proofs.Ythcjkbhkidijoaa
open Go.RowKit
set_option maxRecDepth 20000
set_option linter.unusedSimpArgs false
set_option linter.unusedVariables false

theorem build_dv2 (a a' : Option Addr) (n c n' c' : Nat) (wr : Int) (d : Dv) (hd : d.writes = wr) (hdd : d.dead = false) (W : World) : Sem.run Try.prog (Instr.build 27 #[(0, .slice a n c), (1, .int .i64 wr), (4, .slice a' n' c')]) W = .ok (.agg (dvCells (.slice a n c) d nilS (.slice a' n' c')).toArray) W := by
  unfold dvCells
  rw [hd, hdd]
  kernel_rfl
set_option maxHeartbeats 16000000 in
theorem replace_any {p u f : Value} {d : Dv} {R : List Rng} (w : World) (h : DvRd p u f d R) (hR : RdIn w R) (hg : GoodDv d) (hf : d.faults.length ≤ 1000) :
    Calls Try.prog 29 #[.agg (dvCells p d u f).toArray] w (DvPost w R (replaceR d)) := by
  have HV : Hid (∀ W, Below w.heap.size w W → Calls Try.prog 22 #[.agg (dvCells p d u f).toArray] W fun e w' => e = .returned (.bool (dvOkB d)) ∧ Below W.heap.size W w') := fun W hb => valid_any W h (hR.below hb) hg
  have HCl : Hid (∀ W, Below w.heap.size w W → Calls Try.prog 41 #[f] W fun e w' => ∃ u, e = .returned u ∧ Below W.heap.size W w' ∧ w'.ownsRow W.heap.size 29 6 u d.faults.length (fltRow d.faults)) := fun W hb => cloneF_any d.faults f R W h.faults (hR.below hb) hf
  obtain ⟨fs, hud⟩ := under_dv
  have HUD := Lib.hid hud
  obtain ⟨fs2, huf⟩ := under_flt
  have HUF := Lib.hid huf
  clear hud huf
  obtain ⟨pa, pc, rfl, hp1, hp3, hP2⟩ := h.pages.open hR
  obtain ⟨ua, uc, rfl, hu1, hu3, hU2⟩ := h.unread.open hR
  obtain ⟨fa, fc, rfl, hf1, hf3, hF2⟩ := h.faults.open hR
  clear h hR hg hP2 hU2 hF2 hf
  have h1 := ((Hp.start w).put 27 (dvCells (.slice pa d.pages.length pc) d (.slice ua d.unread.length uc) (.slice fa d.faults.length fc))).put 27 (dvCells nilS dvNil nilS nilS)
  simp only [World.size_alloc, List.nil_append, List.cons_append] at h1
  have HS0 : Hid (Hp w [.ob w.heap.size 27 (dvCells (.slice pa d.pages.length pc) d (.slice ua d.unread.length uc) (.slice fa d.faults.length fc)), .ob (w.heap.size + 1) 27 (dvCells nilS dvNil nilS nilS)] ((w.alloc (.cells (dvCells (.slice pa d.pages.length pc) d (.slice ua d.unread.length uc) (.slice fa d.faults.length fc)).toArray 27)).alloc (.cells #[.slice none 0 0, .int .i64 0, .slice none 0 0, .bool false, .slice none 0 0] 27))) := h1
  clear h1 hp1 hp3 hu1 hu3 hf1 hf3
  go_enter Try.func29, Try.ntmps29
  go_wp2_with (first | ((with_reducible refine wpList_load_ob 27 (.tmp 1) (w.heap.size) (dvCells (.slice pa d.pages.length pc) d (.slice ua d.unread.length uc) (.slice fa d.faults.length fc)) 27 HUD.out ?_ ?_ ?_ ?_ ?_); (exact rfl); (exact (HS0.out).get 0 rfl); (exact rfl); (exact info_dv); simp only [Act.put, List.setIfInBounds_toArray, List.set_cons_zero, List.set_cons_succ]))
  refine (HV.out _ (HS0.out).old).mono ?_
  rintro e w3 ⟨rfl, hb⟩
  have HS2 : Hid (Hp w [.ob (w.heap.size) 27 (dvCells (.slice pa d.pages.length pc) d (.slice ua d.unread.length uc) (.slice fa d.faults.length fc)), .ob ((w.heap.size + 1)) 27 (dvCells nilS dvNil nilS nilS)] w3) := (HS0.out).calls hb
  clear hb
  clear HS0
  generalize (w.heap.size + 1) = B1 at *
  clear HV
  cases hv : dvOkB d
  case false =>
    have HX : Hid (dvOkB d = false) := hv
    clear hv
    go_wp2_with (first | ((with_reducible refine wpList_build_v 27 (.agg (dvCells nilS dvNil nilS nilS).toArray) ?_ ?_); (intro W; simp only [List.map_toArray, List.map_cons, List.map_nil]; exact build_dv0 W); simp only [Act.put, List.setIfInBounds_toArray, List.set_cons_zero, List.set_cons_succ]) | ((with_reducible refine wpList_store_ob 27 (.tmp 2) B1 (dvCells nilS dvNil nilS nilS) (dvCells nilS dvNil nilS nilS) 27 ?_ ?_ ?_ ?_ ?_ ?_ ?_); (exact rfl); (exact rfl); (exact (HS2.out).get 1 rfl); (exact info_dv); (exact rfl); (exact (oneCell_dv _ _ _ _ _ _ _ _ _ _)); skip))
    have HS3 : Hid (Hp w [.ob (w.heap.size) 27 (dvCells (.slice pa d.pages.length pc) d (.slice ua d.unread.length uc) (.slice fa d.faults.length fc)), .ob B1 27 (dvCells nilS dvNil nilS nilS)] (w3.setRow B1 (dvCells nilS dvNil nilS nilS).toArray)) := (HS2.out).row 1 rfl (dvCells nilS dvNil nilS nilS)
    clear HS2
    generalize (w3.setRow B1 (dvCells nilS dvNil nilS nilS).toArray) = w4 at *
    refine bodyPost_ret (results_ob_tmp Try.results29 _ _ B1 (dvCells nilS dvNil nilS nilS) 27 _ rfl (HS3.out.get 1 rfl) HUD.out rfl info_dv) rfl ?_
    exact DvPost.none (by unfold replaceR; rw [if_pos HX.out]) HS3.out.old
  case true =>
    have HX : Hid (¬ dvOkB d = false) := by show ¬ _; rw [hv]; decide
    have HOk := Lib.hid (ok_inv hv)
    have HOk2 : Hid (1 ≤ d.pages.length ∧ d.pages.length ≤ 64) := by
      have h1 := (ok_inv hv).2.1
      unfold dvOkB numsB at hv
      simp only [Bool.and_eq_true, Bool.not_eq_true', decide_eq_false_iff_not] at hv
      exact ⟨by omega, h1⟩
    clear hv
    go_upto_region 3 with (fail)
    refine wp_region_held_drew (S := fun w' => Hold w.heap.size [.ob (w.heap.size) 27 (dvCells (.slice pa d.pages.length pc) d (.slice ua d.unread.length uc) (.slice fa d.faults.length fc))] w') (by kernel_rfl) ((HS2.out).drew.pick [0] rfl) (fun hHeld => ?_)
    refine wpAnyH_take (i := 0) (oi := { dst := some 8, op := Op.fieldAddr 27 (Operand.tmp 1) 0, type := 0, pos := "device.go:217", after := #[], guard := none }) (v := ?q1v) rfl (by kernel_rfl) (by kernel_rfl) (by kernel_rfl) (fun _ _ _ h => h) (Or.inl ⟨by rfl, ?q1h⟩) hHeld ?q1r
    case q1h => (intro wq hSw; clear hSw; go_simp; try with_reducible rfl)
    try simp only [Act.put, List.setIfInBounds_toArray, List.set_cons_zero, List.set_cons_succ]
    refine wpAnyH_take (i := 1) (oi := { dst := some 9, op := Op.load 23 (Operand.tmp 8), type := 23, pos := "device.go:217", after := #[{ on := 0, ground := Ground.data }], guard := none }) (v := ?q2v) rfl (by kernel_rfl) (by kernel_rfl) (by kernel_rfl) (fun _ _ _ h => h) (Or.inl ⟨by rfl, ?q2h⟩) hHeld ?q2r
    case q2h => (intro wq hSw; have b0 := hSw.at 0 rfl 0 rfl; clear hSw; go_simp; try with_reducible rfl)
    try simp only [Act.put, List.setIfInBounds_toArray, List.set_cons_zero, List.set_cons_succ]
    refine wpAnyH_take (i := 2) (oi := { dst := some 10, op := Op.call { callee := Callee.builtin Builtin.len, args := #[Operand.tmp 9], argTypes := #[23] }, type := 3, pos := "device.go:217", after := #[{ on := 1, ground := Ground.data }], guard := none }) (v := ?q3v) rfl (by kernel_rfl) (by kernel_rfl) (by kernel_rfl) (fun _ _ _ h => h) (Or.inl ⟨by rfl, ?q3h⟩) hHeld ?q3r
    case q3h => (intro wq hSw; clear hSw; go_simp; try with_reducible rfl)
    try simp only [Act.put, List.setIfInBounds_toArray, List.set_cons_zero, List.set_cons_succ]
    refine wpAnyH_take (i := 4) (oi := { dst := some 12, op := Op.fieldAddr 27 (Operand.tmp 1) 1, type := 0, pos := "device.go:217", after := #[], guard := none }) (v := ?q4v) rfl (by kernel_rfl) (by kernel_rfl) (by kernel_rfl) (fun _ _ _ h => h) (Or.inl ⟨by rfl, ?q4h⟩) hHeld ?q4r
    case q4h => (intro wq hSw; clear hSw; go_simp; try with_reducible rfl)
    try simp only [Act.put, List.setIfInBounds_toArray, List.set_cons_zero, List.set_cons_succ]
    refine wpAnyH_take (i := 5) (oi := { dst := some 13, op := Op.load 3 (Operand.tmp 12), type := 3, pos := "device.go:217", after := #[{ on := 4, ground := Ground.data }], guard := none }) (v := ?q5v) rfl (by kernel_rfl) (by kernel_rfl) (by kernel_rfl) (fun _ _ _ h => h) (Or.inl ⟨by rfl, ?q5h⟩) hHeld ?q5r
    case q5h => (intro wq hSw; have b1 := hSw.at 0 rfl 1 rfl; clear hSw; go_simp; try with_reducible rfl)
    try simp only [Act.put, List.setIfInBounds_toArray, List.set_cons_zero, List.set_cons_succ]
    refine wpAnyH_take (i := 6) (oi := { dst := some 14, op := Op.fieldAddr 27 (Operand.tmp 1) 4, type := 0, pos := "device.go:217", after := #[], guard := none }) (v := ?q6v) rfl (by kernel_rfl) (by kernel_rfl) (by kernel_rfl) (fun _ _ _ h => h) (Or.inl ⟨by rfl, ?q6h⟩) hHeld ?q6r
    case q6h => (intro wq hSw; clear hSw; go_simp; try with_reducible rfl)
    try simp only [Act.put, List.setIfInBounds_toArray, List.set_cons_zero, List.set_cons_succ]
    refine wpAnyH_take (i := 7) (oi := { dst := some 15, op := Op.load 25 (Operand.tmp 14), type := 25, pos := "device.go:217", after := #[{ on := 6, ground := Ground.data }], guard := none }) (v := ?q7v) rfl (by kernel_rfl) (by kernel_rfl) (by kernel_rfl) (fun _ _ _ h => h) (Or.inl ⟨by rfl, ?q7h⟩) hHeld ?q7r
    case q7h => (intro wq hSw; have b4 := hSw.at 0 rfl 4 rfl; clear hSw; go_simp; try with_reducible rfl)
    try simp only [Act.put, List.setIfInBounds_toArray, List.set_cons_zero, List.set_cons_succ]
    refine wpAnyH_ready (rs := [3]) (by kernel_rfl) (by simp) ?_
    refine AllReadyH.cons (o := { dst := some 11, op := Op.call { callee := Callee.value (Operand.func 34), args := #[Operand.tmp 10], argTypes := #[3] }, type := 23, pos := "device.go:217", after := #[{ on := 2, ground := Ground.data }], guard := none }) rfl (fun K hK => ?_) (AllReadyH.nil)
    go_simp
    go_wp2_with (go_at_call 34; refine (pblanks_k d.pages.length _ HOk2.out.1 HOk2.out.2).mono ?_; rintro e w4 ⟨vp, rfl, hb, ho⟩)
    obtain ⟨ap, cp, rfl⟩ := own_slice ho
    have HS3 : Hid (Hp w [.ob (w.heap.size) 27 (dvCells (.slice pa d.pages.length pc) d (.slice ua d.unread.length uc) (.slice fa d.faults.length fc)), .ob B1 27 (dvCells nilS dvNil nilS nilS), .sl ((.slice ap d.pages.length cp)) 9 1 (d.pages.length) (strRow (List.replicate d.pages.length blankPg))] w4) := ((HS2.out).drew).addown hb ho
    refine hK.out _ _ (HS3.out.pick [0] rfl) (fun hHeld => ?_)
    clear hK K hb ho
    try simp only [Act.put, List.setIfInBounds_toArray, List.set_cons_zero, List.set_cons_succ]
    refine wpAnyH_ready (rs := [8]) (by kernel_rfl) (by simp) ?_
    refine AllReadyH.cons (o := { dst := some 16, op := Op.call { callee := Callee.value (Operand.func 41), args := #[Operand.tmp 15], argTypes := #[25] }, type := 25, pos := "device.go:217", after := #[{ on := 7, ground := Ground.data }, { on := 3, ground := Ground.chain }], guard := none }) rfl (fun K hK => ?_) (AllReadyH.nil)
    go_simp
    go_wp2_with (go_at_call 41; refine (HCl.out _ (HS3.out).old).mono ?_; rintro e w5 ⟨vf, rfl, hb, ho⟩)
    obtain ⟨af, cf, rfl⟩ := own_slice ho
    have HS4 : Hid (Hp w [.ob (w.heap.size) 27 (dvCells (.slice pa d.pages.length pc) d (.slice ua d.unread.length uc) (.slice fa d.faults.length fc)), .ob B1 27 (dvCells nilS dvNil nilS nilS), .sl ((.slice ap d.pages.length cp)) 9 1 (d.pages.length) (strRow (List.replicate d.pages.length blankPg)), .sl ((.slice af d.faults.length cf)) 29 6 (d.faults.length) (fltRow d.faults)] w5) := (HS3.out).addown hb ho
    refine hK.out _ _ (HS4.out.pick [0] rfl) (fun hHeld => ?_)
    clear hK K hb ho
    try simp only [Act.put, List.setIfInBounds_toArray, List.set_cons_zero, List.set_cons_succ]
    refine wpAnyH_take (i := 9) (oi := { dst := some 17, op := Op.build 27 #[(0, Operand.tmp 11), (1, Operand.tmp 13), (4, Operand.tmp 16)], type := 27, pos := "device.go:217", after := #[{ on := 3, ground := Ground.data }, { on := 5, ground := Ground.data }, { on := 8, ground := Ground.data }], guard := none }) rfl (by kernel_rfl) (by kernel_rfl) (by kernel_rfl) (fun _ _ _ h => h) (yieldsIf_build_v (by rfl) 27 (.agg (dvCells (.slice ap d.pages.length cp) (⟨List.replicate d.pages.length blankPg, d.writes, [], false, d.faults⟩ : Dv) nilS (.slice af d.faults.length cf)).toArray) rfl (fun W => by simp only [List.map_toArray, List.map_cons, List.map_nil]; exact build_dv2 _ _ _ _ _ _ _ (⟨List.replicate d.pages.length blankPg, d.writes, [], false, d.faults⟩ : Dv) rfl rfl W)) hHeld ?_
    try simp only [Act.put, List.setIfInBounds_toArray, List.set_cons_zero, List.set_cons_succ]
    refine wpAnyH_ready (rs := [10]) (by kernel_rfl) (by simp) ?_
    refine AllReadyH.cons (o := { dst := none, op := Op.store 27 (Operand.tmp 2) (Operand.tmp 17), type := 0, pos := "device.go:217", after := #[{ on := 9, ground := Ground.data }, { on := 8, ground := Ground.chain }, { on := 0, ground := Ground.phase }, { on := 1, ground := Ground.phase }, { on := 2, ground := Ground.phase }, { on := 3, ground := Ground.phase }, { on := 4, ground := Ground.phase }, { on := 5, ground := Ground.phase }, { on := 6, ground := Ground.phase }, { on := 7, ground := Ground.phase }, { on := 8, ground := Ground.phase }, { on := 9, ground := Ground.phase }], guard := none }) rfl (fun K hK => ?_) (AllReadyH.nil)
    rw [if_pos (by rfl)]
    refine wp_store_ob 27 (.tmp 2) (.tmp 17) B1 (dvCells (.slice ap d.pages.length cp) (⟨List.replicate d.pages.length blankPg, d.writes, [], false, d.faults⟩ : Dv) nilS (.slice af d.faults.length cf)) (dvCells nilS dvNil nilS nilS) 27 rfl rfl rfl rfl ((HS4.out).get 1 rfl) (info_dv) (rfl) ((oneCell_dv _ _ _ _ _ _ _ _ _ _)) ?_
    have HS5 : Hid (Hp w [.ob (w.heap.size) 27 (dvCells (.slice pa d.pages.length pc) d (.slice ua d.unread.length uc) (.slice fa d.faults.length fc)), .ob B1 27 (dvCells (.slice ap d.pages.length cp) (⟨List.replicate d.pages.length blankPg, d.writes, [], false, d.faults⟩ : Dv) nilS (.slice af d.faults.length cf)), .sl ((.slice ap d.pages.length cp)) 9 1 (d.pages.length) (strRow (List.replicate d.pages.length blankPg)), .sl ((.slice af d.faults.length cf)) 29 6 (d.faults.length) (fltRow d.faults)] (w5.setRow B1 (dvCells (.slice ap d.pages.length cp) (⟨List.replicate d.pages.length blankPg, d.writes, [], false, d.faults⟩ : Dv) nilS (.slice af d.faults.length cf)).toArray)) := (HS4.out).row 1 rfl (dvCells (.slice ap d.pages.length cp) (⟨List.replicate d.pages.length blankPg, d.writes, [], false, d.faults⟩ : Dv) nilS (.slice af d.faults.length cf))
    refine hK.out _ _ (HS5.out.pick [0] rfl) (fun hHeld => ?_)
    clear hK K
    generalize (w5.setRow B1 (dvCells (.slice ap d.pages.length cp) (⟨List.replicate d.pages.length blankPg, d.writes, [], false, d.faults⟩ : Dv) nilS (.slice af d.faults.length cf)).toArray) = w6 at *
    try simp only [Act.put, List.setIfInBounds_toArray, List.set_cons_zero, List.set_cons_succ]
    refine wpAnyH_take (i := 11) (oi := { dst := some 3, op := Op.assign (Operand.const (Value.int IntKind.i64 0)), type := 35, pos := "device.go:217", after := #[{ on := 10, ground := Ground.chain }, { on := 0, ground := Ground.phase }, { on := 1, ground := Ground.phase }, { on := 2, ground := Ground.phase }, { on := 3, ground := Ground.phase }, { on := 4, ground := Ground.phase }, { on := 5, ground := Ground.phase }, { on := 6, ground := Ground.phase }, { on := 7, ground := Ground.phase }, { on := 8, ground := Ground.phase }, { on := 9, ground := Ground.phase }, { on := 10, ground := Ground.phase }], guard := none }) (v := ?q9v) rfl (by kernel_rfl) (by kernel_rfl) (by kernel_rfl) (fun _ _ _ h => h) (Or.inl ⟨by rfl, ?q9h⟩) hHeld ?q9r
    case q9h => (intro wq hSw; clear hSw; go_simp; try with_reducible rfl)
    try simp only [Act.put, List.setIfInBounds_toArray, List.set_cons_zero, List.set_cons_succ]
    refine wpAnyH_done (by kernel_rfl) ?_ _
    go_wp2_with fail
    refine bodyPost_ret (results_ob_tmp Try.results29 _ _ B1 (dvCells (.slice ap d.pages.length cp) (⟨List.replicate d.pages.length blankPg, d.writes, [], false, d.faults⟩ : Dv) nilS (.slice af d.faults.length cf)) 27 _ rfl (HS5.out.get 1 rfl) HUD.out rfl info_dv) rfl ?_
    have hpo := HS5.out.own 2 rfl
    obtain ⟨R', hrd, hin, hnew⟩ := own_dv (u := nilS) (d := (⟨List.replicate d.pages.length blankPg, d.writes, [], false, d.faults⟩ : Dv)) (B := w.heap.size) (by rw [List.length_replicate]; exact hpo) ⟨rfl, .inl ⟨rfl, rfl⟩⟩ (HS5.out.own 3 rfl)
    have hres : replaceR d = ((⟨List.replicate d.pages.length blankPg, d.writes, [], false, d.faults⟩ : Dv), 0) := by unfold replaceR; rw [if_neg HX.out]
    rw [hres]
    exact ⟨_, _, _, R', rfl, hrd, hin, fun r hr => .inl (hnew r hr), HS5.out.old⟩
end Go.Proofs.Ythcjkbhkidijoaa
/- devices that are valid, and what the functions of chapter 4 make of them -/
namespace Go.Proofs.Ythcjkbhkidijoaa
open Go.RowKit
set_option maxRecDepth 20000
set_option linter.unusedSimpArgs false
set_option linter.unusedVariables false

/-- a valid device of n pages, whose faults' numbers are numbers -/
structure DvOk (d : Dv) : Prop where
  some : 1 ≤ d.pages.length ∧ d.pages.length ≤ 64
  all : ∀ s ∈ d.pages, s.size = 256
  asc : d.unread.Pairwise (· < ·)
  unr : ∀ x ∈ d.unread, 0 ≤ x ∧ x < (d.pages.length : Int)
  wr : 0 ≤ d.writes ∧ d.writes ≤ 1099511627776
  few : d.faults.length ≤ 64
  flt : ∀ x ∈ d.faults, fltOkB d.pages.length d.writes x = true
  good : ∀ x ∈ d.faults, GoodFlt x
theorem asc_few {l : List Int} {n : Nat} (h : l.Pairwise (· < ·)) (hr : ∀ x ∈ l, 0 ≤ x ∧ x < (n : Int)) : l.length ≤ n := by
  have hge : ∀ i (hi : i < l.length), (i : Int) ≤ l[i] := by
    intro i
    induction i with
    | zero => intro hi; exact (hr _ (List.getElem_mem hi)).1
    | succ i ih =>
      intro hi
      have h9 := ih (by omega)
      have h10 := List.pairwise_iff_getElem.1 h i (i + 1) (by omega) hi (Nat.lt_succ_self _)
      omega
  rcases Nat.eq_zero_or_pos l.length with h0 | h0
  · omega
  · have h9 := hge (l.length - 1) (by omega)
    have h10 := (hr _ (List.getElem_mem (show l.length - 1 < l.length by omega))).2
    omega
theorem DvOk.ok {d : Dv} (h : DvOk d) : dvOkB d = true := by
  unfold dvOkB
  rw [Bool.and_eq_true, Bool.and_eq_true, Bool.and_eq_true]
  refine ⟨?_, List.all_eq_true.2 (fun s hs => by simpa using h.all s hs), ?_, List.all_eq_true.2 h.flt⟩
  · unfold numsB
    simp only [Bool.and_eq_true, Bool.not_eq_true', decide_eq_false_iff_not]
    have h1 := h.some
    have h2 := h.wr
    have h3 := h.few
    omega
  · refine List.all_eq_true.2 (fun i hi => ?_)
    have hi' := List.mem_range.1 hi
    have h1 := h.unr _ (List.getElem_mem hi')
    have e : d.unread.getD i 0 = d.unread[i] := by rw [List.getD_eq_getElem?_getD, List.getElem?_eq_getElem hi']; rfl
    unfold unreadAtB
    rw [e]
    simp only [Bool.and_eq_true, Bool.not_eq_true', decide_eq_false_iff_not, Bool.and_eq_false_iff]
    refine ⟨by omega, by omega, ?_⟩
    rcases Nat.eq_zero_or_pos i with h0 | h0
    · left; omega
    · right
      have h2 := List.pairwise_iff_getElem.1 h.asc (i - 1) i (by omega) hi' (by omega)
      have e2 : d.unread.getD (i - 1) 0 = d.unread[i - 1]'(by omega) := by rw [List.getD_eq_getElem?_getD, List.getElem?_eq_getElem (by omega)]; rfl
      rw [e2]
      omega
theorem unr_of_ok {d : Dv} (h : dvOkB d = true) : ∀ x ∈ d.unread, 0 ≤ x ∧ x < (d.pages.length : Int) := by
  intro x hx
  obtain ⟨i, hi, rfl⟩ := List.getElem_of_mem hx
  unfold dvOkB at h
  simp only [Bool.and_eq_true] at h
  have hb := (List.all_eq_true.1 h.2.2.1) i (List.mem_range.2 hi)
  have e : d.unread.getD i 0 = d.unread[i] := by rw [List.getD_eq_getElem?_getD, List.getElem?_eq_getElem hi]; rfl
  unfold unreadAtB at hb
  rw [e] at hb
  simp only [Bool.and_eq_true, Bool.not_eq_true', decide_eq_false_iff_not] at hb
  omega
theorem dvOk_of {d : Dv} (h : dvOkB d = true) (hg : ∀ x ∈ d.faults, GoodFlt x) : DvOk d := by
  obtain ⟨h1, h2, h3, h4, h5, h6⟩ := ok_inv h
  have h7 : 1 ≤ d.pages.length := by
    unfold dvOkB numsB at h
    simp only [Bool.and_eq_true, Bool.not_eq_true', decide_eq_false_iff_not] at h
    omega
  exact ⟨⟨h7, h2⟩, h1.all, h1.asc, unr_of_ok h, ⟨h4, h5⟩, h3, h6, hg⟩
theorem DvOk.goodDv {d : Dv} (h : DvOk d) : GoodDv d := ⟨h.good, fun s hs => by rw [h.all s hs]; decide, by have := asc_few h.asc h.unr; have := h.some; omega⟩
theorem DvOk.pg {d : Dv} (h : DvOk d) : d.pages.length ≤ 1000 := by have := h.some; omega
theorem DvOk.fl {d : Dv} (h : DvOk d) : d.faults.length ≤ 1000 := by have := h.few; omega
theorem new_ok {n : Nat} (h : 1 ≤ n ∧ n ≤ 64) : newR n = (⟨List.replicate n blankPg, 0, [], false, []⟩, 0) ∧ DvOk ⟨List.replicate n blankPg, 0, [], false, []⟩ := by
  refine ⟨by unfold newR; rw [if_neg (by omega), Int.toNat_natCast], ?_⟩
  exact ⟨by simpa using h, fun s hs => by rw [List.eq_of_mem_replicate hs]; rfl, List.Pairwise.nil, by simp, ⟨Int.le_refl _, by show (0 : Int) ≤ 1099511627776; decide⟩, by simp, by simp, by simp⟩
theorem usable_zero {d : Dv} (h : DvOk d) (hd : d.dead = false) {k : Nat} (hk : k < d.pages.length) : usableR d (k : Int) = 0 := by
  unfold usableR
  rw [if_neg (by rw [h.ok]; decide), if_neg (by rw [hd]; decide), if_neg (by omega)]
theorem happen_unr {d : Dv} {x : Flt} (hx : 0 ≤ x.page ∧ x.page < (d.pages.length : Int)) (h : ∀ y ∈ d.unread, 0 ≤ y ∧ y < (d.pages.length : Int)) : ∀ y ∈ (happenR d x).unread, 0 ≤ y ∧ y < (d.pages.length : Int) := by
  unfold happenR
  split
  · exact h
  · split
    · intro y hy
      rcases with_mem hy with h1 | h1
      · rw [h1]; exact hx
      · exact h y h1
    · split
      · exact h
      · exact h
theorem happen_num (d : Dv) (x : Flt) : (happenR d x).pages.length = d.pages.length := by
  unfold happenR
  split
  · simp
  · split
    · rfl
    · split <;> rfl
theorem happen_wr (d : Dv) (x : Flt) : (happenR d x).writes = d.writes := by
  unfold happenR
  split
  · rfl
  · split
    · rfl
    · split <;> rfl
theorem fold_keep : ∀ (l : List Flt) (d : Dv), (∀ x ∈ l, 0 ≤ x.page ∧ x.page < (d.pages.length : Int)) → (∀ y ∈ d.unread, 0 ≤ y ∧ y < (d.pages.length : Int)) → (l.foldl happenR d).pages.length = d.pages.length ∧ (l.foldl happenR d).writes = d.writes ∧ ∀ y ∈ (l.foldl happenR d).unread, 0 ≤ y ∧ y < (d.pages.length : Int)
  | [], d, _, h => ⟨rfl, rfl, h⟩
  | x :: l, d, hl, h => by
    have e := happen_num d x
    have h1 := happen_unr (hl x (List.mem_cons_self ..)) h
    have := fold_keep l (happenR d x) (fun y hy => by rw [e]; exact hl y (List.mem_cons_of_mem _ hy)) (by rw [e]; exact h1)
    rw [e] at this
    exact ⟨this.1, this.2.1.trans (happen_wr d x), this.2.2⟩
theorem land_keep (d : Dv) (page : Int) (s : ByteArray) : ∀ l : List Flt, (∀ y ∈ d.unread, 0 ≤ y ∧ y < (d.pages.length : Int)) → (landR d page s l).pages.length = d.pages.length ∧ (landR d page s l).writes = d.writes ∧ ∀ y ∈ (landR d page s l).unread, 0 ≤ y ∧ y < (d.pages.length : Int)
  | [], h => ⟨by simp [landR, placeR], rfl, fun y hy => h y (List.mem_filter.1 hy).1⟩
  | x :: l, h => by
    unfold landR
    split
    · exact ⟨rfl, rfl, h⟩
    · split
      · exact ⟨by simp [placeR], rfl, fun y hy => h y (List.mem_filter.1 hy).1⟩
      · split
        · exact ⟨by simp [placeR], rfl, fun y hy => h y (List.mem_filter.1 hy).1⟩
        · exact land_keep d page s l h
theorem flt_later {n : Nat} {w : Int} {x : Flt} (h : fltOkB n w x = true) (hne : ¬ x.at_ = w + 1) : fltOkB n (w + 1) x = true := by
  unfold fltOkB rangesB at h ⊢
  simp only [Bool.and_eq_true, Bool.not_eq_true', decide_eq_false_iff_not] at h ⊢
  obtain ⟨⟨h1, h2⟩, h3⟩ := h
  exact ⟨⟨by omega, h2⟩, h3⟩
/-- a write that is not refused leaves a valid device -/
theorem write_ok {d : Dv} (h : DvOk d) (hd : d.dead = false) {k : Nat} (hk : k < d.pages.length) {s : ByteArray} (hs : s.size = 256) (hw : d.writes ≠ 1099511627776) :
    writeR d k s = ((nowR d).foldl happenR (landR ⟨d.pages, d.writes + 1, d.unread, d.dead, laterR d⟩ k s (nowR d)), 0) ∧ DvOk (writeR d k s).1 := by
  have hu := usable_zero h hd hk
  have e : writeR d k s = ((nowR d).foldl happenR (landR ⟨d.pages, d.writes + 1, d.unread, d.dead, laterR d⟩ k s (nowR d)), 0) := by
    unfold writeR
    rw [if_neg (by rw [hu]; decide), if_neg (fun h => h hs), if_neg hw]
  refine ⟨e, ?_⟩
  rw [e]
  have hnow : ∀ x ∈ nowR d, ((0 ≤ x.target ∧ x.target < (d.pages.length : Int)) ∧ (0 ≤ x.byte ∧ x.byte < 256) ∧ (0 ≤ x.page ∧ x.page < (d.pages.length : Int))) := fun x hx => flt_ranges (h.flt x (List.mem_filter.1 hx).1)
  have hi : DvInv d.pages.length 64 ⟨d.pages, d.writes + 1, d.unread, d.dead, laterR d⟩ := ⟨rfl, h.all, h.asc, by have := asc_few h.asc h.unr; have := h.some; show d.unread.length ≤ 64; omega⟩
  have hl := land_inv hi k ⟨by omega, by omega⟩ s hs (nowR d) (fun x hx => ⟨(hnow x hx).1, (hnow x hx).2.1⟩)
  have hf := fold_inv (nowR d) hl
  obtain ⟨k1, k2, k3⟩ := land_keep ⟨d.pages, d.writes + 1, d.unread, d.dead, laterR d⟩ k s (nowR d) h.unr
  obtain ⟨f1, f2, f3⟩ := fold_keep (nowR d) (landR ⟨d.pages, d.writes + 1, d.unread, d.dead, laterR d⟩ k s (nowR d)) (fun x hx => by rw [k1]; exact (hnow x hx).2.2) (by rw [k1]; exact k3)
  have hfl : ((nowR d).foldl happenR (landR ⟨d.pages, d.writes + 1, d.unread, d.dead, laterR d⟩ k s (nowR d))).faults = laterR d := by rw [fold_faults, land_faults]
  have f2' : ((nowR d).foldl happenR (landR ⟨d.pages, d.writes + 1, d.unread, d.dead, laterR d⟩ k s (nowR d))).writes = d.writes + 1 := f2.trans k2
  have f1' : ((nowR d).foldl happenR (landR ⟨d.pages, d.writes + 1, d.unread, d.dead, laterR d⟩ k s (nowR d))).pages.length = d.pages.length := f1.trans k1
  refine ⟨by show 1 ≤ (List.length _) ∧ _; rw [f1']; exact h.some, hf.all, hf.asc, fun x hx => ?_, ?_, ?_, ?_, ?_⟩
  · have := f3 x hx
    rw [k1] at this
    show 0 ≤ x ∧ x < ((List.length _ : Nat) : Int)
    rw [f1']
    exact this
  · show 0 ≤ Dv.writes _ ∧ Dv.writes _ ≤ _
    rw [f2']
    have := h.wr
    omega
  · show (Dv.faults _).length ≤ 64
    rw [hfl]
    exact Nat.le_trans (List.length_filter_le _ _) h.few
  · intro x hx
    have hx' : x ∈ laterR d := by rw [← hfl]; exact hx
    show fltOkB (List.length _) (Dv.writes _) x = true
    rw [f1', f2']
    have hm := List.mem_filter.1 hx'
    exact flt_later (h.flt x hm.1) (by simpa using hm.2)
  · intro x hx
    have hx' : x ∈ laterR d := by rw [← hfl]; exact hx
    exact h.good x (List.mem_filter.1 hx').1
theorem inject_ok {d : Dv} (h : DvOk d) {x : Flt} (hx : fltOkB d.pages.length d.writes x = true) (hg : GoodFlt x) (hl : d.faults.length < 64) : injectR d x = (⟨d.pages, d.writes, d.unread, d.dead, d.faults ++ [x]⟩, 0) ∧ DvOk ⟨d.pages, d.writes, d.unread, d.dead, d.faults ++ [x]⟩ := by
  refine ⟨by unfold injectR; rw [if_neg (by rw [h.ok]; decide), if_neg (by rw [hx]; decide), if_neg (by omega)], ⟨h.some, h.all, h.asc, h.unr, h.wr, by simp; omega, fun y hy => ?_, fun y hy => ?_⟩⟩
  · rcases List.mem_append.1 hy with h1 | h1
    · exact h.flt y h1
    · rw [List.mem_singleton.1 h1]; exact hx
  · rcases List.mem_append.1 hy with h1 | h1
    · exact h.good y h1
    · rw [List.mem_singleton.1 h1]; exact hg
theorem tear_ok {d : Dv} (h : DvOk d) (hd : d.dead = false) {k : Nat} (hk : k < d.pages.length) {s : ByteArray} (hs : s.size = 256) {c : Nat} (hc : c ≤ 256) : tearR d k s c = (placeR d k s c, 0) ∧ DvOk (placeR d k s c) := by
  have hu := usable_zero h hd hk
  refine ⟨by unfold tearR; rw [if_neg (by rw [hu]; decide), if_neg (by omega), if_neg (fun h => h hs), Int.toNat_natCast], ?_⟩
  have hi : DvInv d.pages.length 64 d := ⟨rfl, h.all, h.asc, by have := asc_few h.asc h.unr; have := h.some; omega⟩
  have hp := place_inv hi k ⟨by omega, by omega⟩ s hs c hc
  have hn : (placeR d k s c).pages.length = d.pages.length := hp.num
  refine ⟨by show 1 ≤ List.length _ ∧ _; rw [hn]; exact h.some, hp.all, hp.asc, fun x hx => ?_, h.wr, h.few, ?_, h.good⟩
  · show 0 ≤ x ∧ x < ((List.length _ : Nat) : Int)
    rw [hn]
    exact h.unr x (List.mem_filter.1 hx).1
  · intro x hx
    show fltOkB (List.length _) _ x = true
    rw [hn]
    exact h.flt x hx
theorem replace_ok {d : Dv} (h : DvOk d) : replaceR d = (⟨List.replicate d.pages.length blankPg, d.writes, [], false, d.faults⟩, 0) ∧ DvOk ⟨List.replicate d.pages.length blankPg, d.writes, [], false, d.faults⟩ := by
  refine ⟨by unfold replaceR; rw [if_neg (by rw [h.ok]; decide)], ⟨by simpa using h.some, fun s hs => by rw [List.eq_of_mem_replicate hs]; rfl, List.Pairwise.nil, by simp, h.wr, h.few, fun x hx => ?_, h.good⟩⟩
  show fltOkB (List.length _) _ x = true
  rw [List.length_replicate]
  exact h.flt x hx
theorem read_ok {d : Dv} (h : DvOk d) (hd : d.dead = false) {k : Nat} (hk : k < d.pages.length) (hu : (k : Int) ∉ d.unread) : readR d k = (d.pages[k], 0) := by
  have hz := usable_zero h hd hk
  unfold readR
  have hh : hasB d.unread k = false := by
    unfold hasB
    rw [List.any_eq_false]
    intro x hx
    simp only [decide_eq_true_eq]
    intro e
    rw [e] at hx
    exact hu hx
  rw [if_neg (by rw [hz]; decide), if_neg (by rw [hh]; decide), Int.toNat_natCast, List.getD_eq_getElem?_getD, List.getElem?_eq_getElem hk]
  rfl
theorem dv_as {f : FuncId} {args : Array Value} {w w1 : World} {R : List Rng} {x y : Dv × Int} (h : x = y) (c : Calls Try.prog f args w (DvPost w1 R x)) : Calls Try.prog f args w (DvPost w1 R y) := h ▸ c
end Go.Proofs.Ythcjkbhkidijoaa
/- what the functions of chapter 4 answer is a device that they can be asked of again; what a drawing function made is read -/
namespace Go.Proofs.Ythcjkbhkidijoaa
open Go.RowKit
set_option maxRecDepth 20000

structure GB (d : Dv) : Prop where
  good : GoodDv d
  pg : d.pages.length ≤ 1000
  fl : d.faults.length ≤ 1000
theorem GB.nil : GB dvNil := ⟨⟨fun x h => (by cases h), fun x h => (by cases h), Nat.zero_le _⟩, Nat.zero_le _, Nat.zero_le _⟩
theorem DvOk.gb {d : Dv} (h : DvOk d) : GB d := ⟨h.goodDv, h.pg, h.fl⟩
theorem newR_gb (n : Int) : GB (newR n).1 := by
  by_cases h : n < 1 ∨ 64 < n
  · unfold newR; rw [if_pos h]; exact GB.nil
  · obtain ⟨k, rfl⟩ := Int.eq_ofNat_of_zero_le (show 0 ≤ n by omega)
    have := new_ok (n := k) (by omega)
    rw [this.1]
    exact this.2.gb
theorem usable_inv {d : Dv} {page : Int} (h : usableR d page = 0) : dvOkB d = true ∧ d.dead = false ∧ ∃ k : Nat, page = k ∧ k < d.pages.length := by
  unfold usableR at h
  split at h
  · exact absurd h (by decide)
  · next h1 =>
    split at h
    · exact absurd h (by decide)
    · next h2 =>
      split at h
      · exact absurd h (by decide)
      · next h3 =>
        obtain ⟨k, rfl⟩ := Int.eq_ofNat_of_zero_le (show 0 ≤ page by omega)
        exact ⟨by simpa using h1, by simpa using h2, k, rfl, by omega⟩
theorem writeR_gb {d : Dv} (hg : GB d) (page : Int) (s : ByteArray) : GB (writeR d page s).1 := by
  by_cases hu : usableR d page = 0
  · obtain ⟨h1, h2, k, rfl, hk⟩ := usable_inv hu
    by_cases hs : s.size = 256
    · by_cases hw : d.writes = 1099511627776
      · unfold writeR; rw [if_neg (fun h => h hu), if_neg (fun h => h hs), if_pos hw]; exact GB.nil
      · exact (write_ok (dvOk_of h1 hg.good.faults) h2 hk hs hw).2.gb
    · unfold writeR; rw [if_neg (fun h => h hu), if_pos hs]; exact GB.nil
  · unfold writeR; rw [if_pos hu]; exact GB.nil
theorem injectR_gb {d : Dv} (hg : GB d) {x : Flt} (hx : GoodFlt x) : GB (injectR d x).1 := by
  unfold injectR
  split
  · exact GB.nil
  · next h1 =>
    split
    · exact GB.nil
    · next h2 =>
      split
      · exact GB.nil
      · next h3 =>
        have h := dvOk_of (d := d) (by simpa using h1) hg.good.faults
        exact (inject_ok h (by simpa using h2) hx (by have := h.few; omega)).2.gb
theorem tearR_gb {d : Dv} (hg : GB d) (page : Int) (s : ByteArray) (cut : Int) : GB (tearR d page s cut).1 := by
  by_cases hu : usableR d page = 0
  · obtain ⟨h1, h2, k, rfl, hk⟩ := usable_inv hu
    by_cases hc : cut < 0 ∨ 256 < cut
    · unfold tearR; rw [if_neg (fun h => h hu), if_pos hc]; exact GB.nil
    · by_cases hs : s.size = 256
      · obtain ⟨c, rfl⟩ := Int.eq_ofNat_of_zero_le (show 0 ≤ cut by omega)
        have := tear_ok (dvOk_of h1 hg.good.faults) h2 hk hs (c := c) (by omega)
        rw [this.1]
        exact this.2.gb
      · unfold tearR; rw [if_neg (fun h => h hu), if_neg hc, if_pos hs]; exact GB.nil
  · unfold tearR; rw [if_pos hu]; exact GB.nil
theorem replaceR_gb {d : Dv} (hg : GB d) : GB (replaceR d).1 := by
  by_cases h1 : dvOkB d = true
  · have := replace_ok (dvOk_of h1 hg.good.faults)
    rw [this.1]
    exact this.2.gb
  · unfold replaceR; rw [if_pos (by simpa using h1)]; exact GB.nil
/-- what a drawing function made is read -/
theorem Hp.drawsrd {w W W' : World} {L : List Th} (h : Hp w L W) (i : Nat) {C : Nat} (e : L[i]? = some (.cd C)) (hb : Besides C W W') (hc : CodesOk W' C) (R : List Rng) (hR : RdIn W' R) (hn : ∀ r ∈ R, W.heap.size ≤ r.1) : Hp w (L ++ [.rd R]) W' := by
  have h' := h.draws i e hb hc
  have hL : L.set i (.cd C) = L := by
    apply List.ext_getElem?
    intro j
    rw [List.getElem?_set]
    split
    · next hij =>
      subst hij
      rw [e]
      split
      · rfl
      · next hlt => rw [List.getElem?_eq_none (by omega)] at e; cases e
    · rfl
  rw [hL] at h'
  refine ⟨h'.old, fun x hx => ?_, ?_⟩
  · rcases List.mem_append.1 hx with hx | hx
    · exact h'.all x hx
    · obtain rfl := List.mem_singleton.1 hx
      exact hR
  · rw [List.pairwise_append]
    refine ⟨h'.nd, List.pairwise_singleton _ _, fun a ha b hb => ?_⟩
    obtain rfl := List.mem_singleton.1 hb
    refine ⟨fun c hac => ⟨fun hbc => (by cases hbc), fun hbr => ?_⟩, fun c hbc => by cases hbc⟩
    have h1 := ((h.all a ha).from hac).2
    obtain ⟨r, hr, rfl⟩ := List.mem_map.1 hbr
    have := hn r hr
    omega
/-- a device's value and what it reads as -/
structure Dt where
  p : Value
  u : Value
  f : Value
  d : Dv
def dtCells (t : Dt) : List Value := dvCells t.p t.d t.u t.f
structure DtGood (R : List Rng) (t : Dt) : Prop where
  rd : DvRd t.p t.u t.f t.d R
  gb : GB t.d
  sm : t.d.pages.length ≤ 200
theorem DtGood.mono {R S : List Rng} {t : Dt} (h : DtGood R t) (hs : ∀ r ∈ R, r ∈ S) : DtGood S t := ⟨h.rd.mono hs, h.gb, h.sm⟩
theorem Hp.rdall {w W : World} {L : List Th} (h : Hp w L W) (i j k : Nat) {R0 R1 R2 : List Rng} (e0 : L[i]? = some (.rd R0)) (e1 : L[j]? = some (.rd R1)) (e2 : L[k]? = some (.rd R2)) : Hp w (L ++ [.rd (R0 ++ (R1 ++ R2))]) W :=
  h.addrd (Below.refl _ _) _ ((h.reads i e0).append ((h.reads j e1).append (h.reads k e2))) (fun r hr => by
    rcases List.mem_append.1 hr with hr | hr
    · exact .inr ⟨.rd R0, List.mem_of_getElem? e0, List.mem_map.2 ⟨r, hr, rfl⟩⟩
    · rcases List.mem_append.1 hr with hr | hr
      · exact .inr ⟨.rd R1, List.mem_of_getElem? e1, List.mem_map.2 ⟨r, hr, rfl⟩⟩
      · exact .inr ⟨.rd R2, List.mem_of_getElem? e2, List.mem_map.2 ⟨r, hr, rfl⟩⟩)
theorem elem_dv5 : ElemIs 27 5 88 := elem_of (z := .agg (dvCells (.slice none 0 0) dvNil (.slice none 0 0) (.slice none 0 0)).toArray) (by kernel_rfl) rfl (by decide) (by decide) (by decide)
theorem dt_len {us : List Dt} : ∀ y ∈ us.map dtCells, y.length = 5 := by
  intro y hy
  obtain ⟨v, _, rfl⟩ := List.mem_map.1 hy
  rfl
theorem flt_len {us : List Flt} : ∀ y ∈ us.map fltCells, y.length = 6 := by
  intro y hy
  obtain ⟨v, _, rfl⟩ := List.mem_map.1 hy
  rfl
end Go.Proofs.Ythcjkbhkidijoaa
/- the choices of a law's walk, as a thing -/
namespace Go.Proofs.Ythcjkbhkidijoaa
open Go.RowKit
set_option maxRecDepth 20000

theorem row_lo {w : World} {x : Option Addr} {len cap : Nat} {zs : List Int} (hr : IsRow .u8 w x len cap zs) (h0 : 0 < len) : ∀ b off, x = some ⟨b, off, none⟩ → b < w.heap.size := by
  intro b off hx
  rcases hr with ⟨_, h, _, _⟩ | ⟨y, hy, _, _, hz, hc, _⟩
  · omega
  · have := World.block_lt_of_cell? w _ (hc 0 (by omega))
    rw [hx] at hy
    cases hy
    simpa [Addr.add] using this
theorem new_hp (m : Nat) (hm : m ≤ 1000) {w0 w : World} {L : List Th} {x : Option Addr} {len cap : Nat} {zs : List Int} (h : Hp w0 L w) (hr : IsRow .u8 w0 x len cap zs) :
    Calls Try.prog 11 #[.slice x len cap, .int .i64 m] w fun e w' => e = .returned (.pointer (some ⟨w.heap.size, 0, none⟩)) ∧ Hp w0 (L ++ [.cd w.heap.size]) w' :=
  (new_at m hm x len cap zs w (row_below hr h.old)).mono fun _ _ ⟨h1, h2, h3, l, c, h4, h5⟩ => ⟨h1, h.begin h2 h3 ⟨x, l, c, h4, fun hl => row_lo hr (h5 hl)⟩⟩
end Go.Proofs.Ythcjkbhkidijoaa
/- the choices of the drawing package: how many are left -/
namespace Go.Proofs.Ythcjkbhkidijoaa
open Go.RowKit
set_option maxRecDepth 20000

/-- how many choices are left at block C -/
def leftIn (w : World) (C : Nat) : Nat := match w.cell? ⟨C, 0, none⟩, w.cell? ⟨C, 1, none⟩ with
  | some (.slice _ len _), some (.int _ i) => ((len : Int) - i).toNat
  | _, _ => 0
theorem CodesAt.left {w : World} {C len cap : Nat} {a : Option Addr} {i : Int} (h : CodesAt w C a len cap i) : leftIn w C = ((len : Int) - i).toNat := by
  unfold leftIn
  rw [h.2.1, h.2.2.1]
theorem leftIn_of {w w' : World} {C : Nat} (h : w'.heap[C]? = w.heap[C]?) : leftIn w' C = leftIn w C := by
  unfold leftIn
  rw [World.cell?_of_block (a := ⟨C, 0, none⟩) h, World.cell?_of_block (a := ⟨C, 1, none⟩) h]
theorem leftIn_below {w w' : World} {C B : Nat} (hb : Below B w w') (hC : C < B) : leftIn w' C = leftIn w C := leftIn_of (hb.block C hC)
theorem leftIn_drewN (w : World) (q C : Nat) : leftIn (w.drewN q) C = leftIn w C := rfl
theorem leftIn_next {w : World} {C len cap : Nat} {a : Option Addr} {i : Int} (h : CodesAt w C a len cap i) : leftIn (w.setCell ⟨C, 1, none⟩ (.int .i64 (i + 1))) C ≤ leftIn w C - 1 := by
  rw [h.left]
  unfold leftIn
  rw [World.cell?_setCell_other w _ _ _ (by intro h; cases h), h.2.1, World.cell?_setCell_same w _ _ h.2.2.1]
  show ((len : Int) - (i + 1)).toNat ≤ _
  omega
def NextL (C : Nat) (n : Int) (w : World) (e : Ending) (w' : World) : Prop :=
  ∃ x : Int, e = .returned (.int .i64 x) ∧ 0 ≤ x ∧ (x < n ∨ x = 0) ∧ Besides C w w' ∧ CodesOk w' C ∧ leftIn w' C ≤ leftIn w C - 1
set_option maxHeartbeats 400000 in
theorem left_end (C : Nat) (a : Option Addr) (len cap : Nat) (i n : Int) (w : World) (h : CodesAt w C a len cap i) (hl : (len : Int) ≤ i) :
    Calls Try.prog 17 #[.pointer (some ⟨C, 0, none⟩), .int .i64 n] w (NextL C n w) := by
  have HK : Hid (CodesOk w C) := ⟨a, len, cap, i, h⟩
  have HZ : Hid (leftIn w C = 0) := by show _ = _; rw [h.left]; omega
  have h1 := h.2.1
  have h2 := h.2.2.1
  clear h
  have d1 : decide ((len : Int) ≤ i) = true := by simpa using hl
  go_enter Try.func17, Try.ntmps17
  go_wp2
  go_quiet (fail)
  go_wp2
  go_ret
  exact ⟨0, rfl, Int.le_refl _, Or.inr rfl, (Besides.refl _ _).drewN _, HK.out.drewN _, by rw [leftIn_drewN, HZ.out]; exact Nat.le_refl _⟩
set_option maxHeartbeats 400000 in
theorem left_neg (C : Nat) (a : Option Addr) (len cap : Nat) (i n : Int) (w : World) (h : CodesAt w C a len cap i) (hn : n < 1) :
    Calls Try.prog 17 #[.pointer (some ⟨C, 0, none⟩), .int .i64 n] w fun e w' => ∃ x : Int, e = .returned (.int .i64 x) ∧ 0 ≤ x ∧ (x < n ∨ x = 0) ∧ Besides C w w' ∧ CodesOk w' C ∧ leftIn w' C ≤ leftIn w C := by
  have HK : Hid (CodesOk w C) := ⟨a, len, cap, i, h⟩
  have HZ0 := Lib.hid h
  have h1 := h.2.1
  have h2 := h.2.2.1
  clear h
  by_cases hl : (len : Int) ≤ i
  · exact (left_end C a len cap i n w HZ0.out hl).mono fun e w' ⟨x, h1, h2, h3, h4, h5, h6⟩ => ⟨x, h1, h2, h3, h4, h5, by omega⟩
  · have d1 : decide ((len : Int) ≤ i) = false := by simpa using hl
    have d2 : decide (n < 1) = true := by simpa using hn
    go_enter Try.func17, Try.ntmps17
    go_wp2
    go_quiet (fail)
    go_wp2
    go_ret
    exact ⟨0, rfl, Int.le_refl _, Or.inr rfl, (Besides.refl _ _).drewN _, HK.out.drewN _, Nat.le_refl _⟩
set_option maxHeartbeats 400000 in
theorem left_small (C : Nat) (n : Int) (w : World) (h : CodesOk w C) (h1n : 1 ≤ n) (hn : n ≤ 256) :
    Calls Try.prog 17 #[.pointer (some ⟨C, 0, none⟩), .int .i64 n] w (NextL C n w) := by
  obtain ⟨a, len, cap, i, h⟩ := h
  by_cases hz : (len : Int) ≤ i
  · exact left_end C a len cap i n w h hz
  have hi : i < len := by omega
  have HK : Hid (∀ q : Nat, CodesOk ((w.drewN q).setCell ⟨C, 1, none⟩ (.int .i64 (i + 1))) C) := fun q => (h.keep (w' := w.drewN q) (Nat.le_refl _) (fun _ _ => rfl)).next hi
  have HLf : Hid (∀ q : Nat, leftIn ((w.drewN q).setCell ⟨C, 1, none⟩ (.int .i64 (i + 1))) C ≤ leftIn w C - 1) := fun q => leftIn_next (w := w.drewN q) (h.keep (w' := w.drewN q) (Nat.le_refl _) (fun _ _ => rfl))
  obtain ⟨h0, h1, h2, h3, h4, h5, h6, h7⟩ := h
  obtain ⟨b, off, rfl, hbC, hcell⟩ := h7 (by omega)
  obtain ⟨k, rfl⟩ := Int.eq_ofNat_of_zero_le h4
  obtain ⟨z, hzc, z0, z1⟩ := hcell k (by omega)
  clear hcell h7 hz
  have d1 : decide (len ≤ k) = false := by simp; omega
  have d2 : decide (n < 1) = false := by simp; omega
  have hk : (k : Int) < (len : Int) := by omega
  have hk0 : (0 : Int) ≤ (k : Int) := by omega
  have hg : ¬ 256 < n := by omega
  have dz := Int.emod_nonneg z (show n ≠ 0 by omega)
  have dz2 := Int.emod_lt_of_pos z (show 0 < n by omega)
  go_enter Try.func17, Try.ntmps17
  go_wp2
  go_quiet (fail)
  go_wp2
  go_quiet (fail)
  go_wp2
  go_ret
  exact ⟨z % n, rfl, dz, Or.inl dz2, ((Besides.refl _ _).drewN _).set _ _ (by decide), HK.out _, HLf.out _⟩
set_option maxHeartbeats 1000000 in
theorem bytes_left (C : Nat) (w : World) (h : CodesOk w C) :
    Calls Try.prog 18 #[.pointer (some ⟨C, 0, none⟩)] w fun e w' => ∃ s : ByteArray, e = .returned (.string s) ∧ s.size = 256 ∧ Besides C w w' ∧ CodesOk w' C ∧ leftIn w' C ≤ leftIn w C := by
  have HK := Lib.hid h
  clear h
  have hmk : Sem.run Try.prog (Instr.makeSlice 22 (.int .i64 256) (.int .i64 256)) w = .ok (.slice (some ⟨w.heap.size, 0, none⟩) 256 256) (w.alloc (.cells (madeCells #[.int .u8 0] 256) 5)) :=
    run_make_row' 22 5 (.int .u8 0) 1 Try.underlying22 info_byte rfl .i64 .i64 256 (by decide) (by decide) w
  rw [made_row] at hmk
  have hlen := len_rep 256
  generalize List.replicate 256 (0 : UInt8) = L0 at hmk hlen
  have HRa : Hid (RowIn (w.alloc (.cells (L0.map (fun b => Value.int .u8 (b.toNat : Int))).toArray 5 (0, 0))) w.heap.size L0) := heap_alloc_last w _
  generalize (L0.map (fun b => Value.int .u8 (b.toNat : Int))).toArray = cells0 at hmk HRa
  have HL0 := Lib.hid hlen
  clear hlen
  go_enter Try.func18, Try.ntmps18
  go_wp2_with fail
  refine (left_small C 256 _ (HK.out.below ((Below.refl _ _).alloc (Nat.le_refl _) _) HK.out.lt) (by omega) (by omega)).mono ?_
  rintro e w2 ⟨x, rfl, x0, x1, hb2, hc2, hl2⟩
  have x2 : x ≤ 255 := by omega
  have HBC : Hid (w.heap.size ≠ C) := by have := HK.out.lt; show _ ≠ _; omega
  have HCB : Hid (C < w.heap.size) := HK.out.lt
  have HR2 := Lib.hid (HRa.out.besides hb2 HBC.out)
  have HB2 := Lib.hid (((Besides.refl C w).alloc _).trans hb2)
  have HC2 := Lib.hid hc2
  have HL2 : Hid (leftIn w2 C ≤ leftIn w C) := by
    have e := leftIn_below ((Below.refl w.heap.size w).alloc (Nat.le_refl _) (.cells cells0 5)) HCB.out
    show _ ≤ _
    rw [e] at hl2
    omega
  clear hb2 hc2 x1 hmk hl2
  have hwx : IntKind.u8.wrap x = x := IntWalk.u8_in _ ⟨x0, x2⟩
  have HX : Hid (0 ≤ x ∧ x ≤ 255) := ⟨x0, x2⟩
  go_wp2_with fail
  go_loopw [5] (fun i wr => ∃ (k : Nat) (l : List UInt8), k ≤ 256 ∧ i = .int .i64 k ∧ l.length = 256 ∧ RowIn wr w.heap.size l ∧ Besides C w wr ∧ CodesOk wr C ∧ leftIn wr C ≤ leftIn w C) (fun i _ => 256 - (intOf i).toNat)
  case atStart => exact ⟨0, L0, by omega, rfl, HL0.out, HR2.out, HB2.out, HC2.out, HL2.out⟩
  case round =>
    obtain ⟨k, l, hk, rfl, hl, hr, hb, hc, hlf⟩ := hrel
    have HL := Lib.hid hl
    have HR := Lib.hid hr
    have HB := Lib.hid hb
    have HC := Lib.hid hc
    have HLf := Lib.hid hlf
    clear hl hr hb hc hlf
    by_cases hlt : k < 256
    · have hki : (k : Int) < 256 := by omega
      have c0 := HR.out.cell k (by rw [HL.out]; exact hlt)
      have f0 := HR.out.frozen k
      generalize l[k]'(by rw [HL.out]; exact hlt) = old at c0
      have hkw : IntKind.i64.wrap ((k : Int) + 1) = (k : Int) + 1 := IntWalk.i64_in _ (by omega)
      go_wp2_with fail
      go_roundw
      case rel => exact ⟨k + 1, l.set k (UInt8.ofNat x.toNat), by omega, rfl, by rw [List.length_set]; exact HL.out, HR.out.set k x HX.out.1 HX.out.2, HB.out.then_below ((Below.refl _ _).setCell (p := ⟨w.heap.size, k, none⟩) (Nat.le_refl _) _), HC.out.below ((Below.refl w.heap.size wr).setCell (p := ⟨w.heap.size, k, none⟩) (Nat.le_refl _) _) HCB.out, by rw [leftIn_below ((Below.refl w.heap.size wr).setCell (p := ⟨w.heap.size, k, none⟩) (Nat.le_refl _) _) HCB.out]; exact HLf.out⟩
      case measure => simp [intOf]; omega
    · have hki : ¬ (k : Int) < 256 := by omega
      go_wp2_with fail
      refine (left_small C 256 _ HC.out (by omega) (by omega)).mono ?_
      rintro e w3 ⟨j, rfl, j0, j1, hb3, hc3, hl3⟩
      obtain ⟨j, rfl⟩ := Int.eq_ofNat_of_zero_le j0
      have hj : j < 256 := by omega
      have HR3 := Lib.hid (HR.out.besides hb3 HBC.out)
      have HB3 := Lib.hid (HB.out.trans hb3)
      have HC3 := Lib.hid hc3
      have HL3 : Hid (leftIn w3 C ≤ leftIn w C) := by have := HLf.out; show _ ≤ _; omega
      clear hl3 hb3 hc3 j0 j1
      go_wp2_with fail
      refine (left_small C 256 _ HC3.out (by omega) (by omega)).mono ?_
      rintro e w4 ⟨y, rfl, y0, y1, hb4, hc4, hl4⟩
      have y2 : y ≤ 255 := by omega
      have HY : Hid (0 ≤ y ∧ y ≤ 255) := ⟨y0, y2⟩
      have hwy : IntKind.u8.wrap y = y := IntWalk.u8_in _ ⟨y0, y2⟩
      have hji : (j : Int) < 256 := by omega
      have HR4 := Lib.hid (HR3.out.besides hb4 HBC.out)
      have HB4 := Lib.hid (HB3.out.trans hb4)
      have HC4 := Lib.hid hc4
      have c0 := HR4.out.cell j (by rw [HL.out]; exact hj)
      have f0 := HR4.out.frozen j
      generalize l[j]'(by rw [HL.out]; exact hj) = old at c0
      have hcv := (HR4.out.set j y y0 y2).conv 256 256 (by rw [List.length_set]; exact HL.out.symm)
      have HL4 : Hid (leftIn w4 C ≤ leftIn w C) := by have := HL3.out; show _ ≤ _; omega
      clear hl4 hb4 hc4 y1
      go_wp2_with fail
      go_ret
      exact ⟨_, rfl, by show (List.toArray _).size = 256; rw [List.size_toArray, List.length_set]; exact HL.out, HB4.out.then_below ((Below.refl _ _).setCell (p := ⟨w.heap.size, j, none⟩) (Nat.le_refl _) _), HC4.out.below ((Below.refl w.heap.size w4).setCell (p := ⟨w.heap.size, j, none⟩) (Nat.le_refl _) _) HCB.out, by rw [leftIn_below ((Below.refl w.heap.size w4).setCell (p := ⟨w.heap.size, j, none⟩) (Nat.le_refl _) _) HCB.out]; exact HL4.out⟩
theorem left_any (C : Nat) (w : World) (h : CodesOk w C) :
    Calls Try.prog 33 #[.pointer (some ⟨C, 0, none⟩)] w fun e w' => ∃ (q : Nat) (v : Int), e = .returned (.int .i64 v) ∧ (0 < v → 0 < leftIn w C) ∧ w' = w.drewN q := by
  obtain ⟨a, len, cap, i, h⟩ := h
  have HL : Hid (leftIn w C = ((len : Int) - i).toNat) := h.left
  obtain ⟨h0, h1, h2, h3, h4, h5, h6, h7⟩ := h
  have hw : IntKind.i64.wrap ((len : Int) - i) = (len : Int) - i := IntWalk.i64_in _ (by omega)
  clear h0 h3 h4 h5 h6 h7
  go_enter Try.func33, Try.ntmps33
  go_wp2
  go_quiet (fail)
  go_wp2
  go_ret
  exact ⟨_, _, rfl, fun hv => by have := HL.out; omega, rfl⟩
set_option maxHeartbeats 400000 in
theorem new_left (m : Nat) (hm : m ≤ 1000) (a : Option Addr) (len cap : Nat) (zs : List Int) (w : World) (h : IsRow .u8 w a len cap zs) :
    Calls Try.prog 11 #[.slice a len cap, .int .i64 m] w fun e w' => e = .returned (.pointer (some ⟨w.heap.size, 0, none⟩)) ∧ Below w.heap.size w w' ∧ CodesOk w' w.heap.size ∧ CodesRow w' w.heap.size a len ∧ leftIn w' w.heap.size ≤ m := by
  by_cases hl : m < len
  · have HK := Lib.hid (codes_of_row h m cap (by omega) (by omega))
    rcases h with ⟨_, h, _, _⟩ | ⟨x, rfl, hlc, hcm, hz, _, _⟩
    · omega
    · have hcap : (m : Int) ≤ (cap : Int) := by omega
      have hi : (m : Int) < (len : Int) := by omega
      have hm0 : (0 : Int) ≤ (m : Int) := by omega
      have HL : Hid (m < len) := hl
      clear hz
      go_enter Try.func11, Try.ntmps11
      go_wp2
      go_ret
      exact ⟨rfl, (Below.refl _ _).alloc (Nat.le_refl _) _, HK.out, ⟨_, _, by rw [World.cell?_alloc_new]; rfl, fun _ => by have := HL.out; omega⟩, by unfold leftIn; rw [World.cell?_alloc_new, World.cell?_alloc_new]; show ((m : Int) - 0).toNat ≤ m; omega⟩
  · have hle : len ≤ 4611686018427387904 := by omega
    have HK := Lib.hid (codes_of_row h len cap (Nat.le_refl _) hle)
    have hi : ¬ ((m : Int) < (len : Int)) := by omega
    clear h
    go_enter Try.func11, Try.ntmps11
    go_wp2
    go_ret
    have hlm : len ≤ m := by omega
    refine ⟨rfl, (Below.refl _ _).alloc (Nat.le_refl _) _, HK.out, ⟨len, cap, ?_, fun h0 => h0⟩, by unfold leftIn; rw [World.cell?_alloc_new, World.cell?_alloc_new]; show ((len : Int) - 0).toNat ≤ m; omega⟩
    rw [World.cell?_alloc_new]
    rfl
theorem new_hpl (m : Nat) (hm : m ≤ 1000) {w0 w : World} {L : List Th} {x : Option Addr} {len cap : Nat} {zs : List Int} (h : Hp w0 L w) (hr : IsRow .u8 w0 x len cap zs) :
    Calls Try.prog 11 #[.slice x len cap, .int .i64 m] w fun e w' => e = .returned (.pointer (some ⟨w.heap.size, 0, none⟩)) ∧ Hp w0 (L ++ [.cd w.heap.size]) w' ∧ leftIn w' w.heap.size ≤ m :=
  (new_left m hm x len cap zs w (row_below hr h.old)).mono fun _ _ ⟨h1, h2, h3, ⟨l, c, h4, h5⟩, h6⟩ => ⟨h1, h.begin h2 h3 ⟨x, l, c, h4, fun hl => row_lo hr (h5 hl)⟩, h6⟩
end Go.Proofs.Ythcjkbhkidijoaa
/- the choices of the drawing package: Int -/
namespace Go.Proofs.Ythcjkbhkidijoaa
open Go.RowKit
set_option maxRecDepth 20000

/-- what Int leaves: some number -/
def IntPost (C : Nat) (w : World) (e : Ending) (w' : World) : Prop :=
  ∃ x : Int, e = .returned (.int .i64 x) ∧ -9223372036854775808 ≤ x ∧ x ≤ 9223372036854775807 ∧ Besides C w w' ∧ CodesOk w' C
/-- the numbers about limits -/
def limL : List Int := [9223372036854775807, -9223372036854775808, 1099511627776, 1099511627777, 1073741824, 1073741825, 64, 63, 16, 15, 256, 255, 4294967296, 65536, 256, 255]
def limV : Array Value := (limL.map (Value.int .i64)).toArray
theorem limL_in : ∀ i : Fin 16, -9223372036854775808 ≤ limL.getD i.val 0 ∧ limL.getD i.val 0 ≤ 9223372036854775807 := by decide
theorem limV_get (k : Nat) (h : k < 16) : limV[k]? = some (.int .i64 (limL.getD k 0)) := by
  unfold limV
  rw [List.getElem?_toArray, List.getElem?_map, List.getD_eq_getElem?_getD, List.getElem?_eq_getElem (by simpa [limL] using h)]
  rfl

set_option maxHeartbeats 1000000 in
theorem int_any (C : Nat) (w : World) (h : CodesOk w C) :
    Calls Try.prog 37 #[.pointer (some ⟨C, 0, none⟩)] w (IntPost C w) := by
  have HK := Lib.hid h
  clear h
  go_enter Try.func37, Try.ntmps37
  go_wp2_with fail
  refine (next_any C 10 _ HK.out (by omega)).mono ?_
  rintro e w2 ⟨m, rfl, m0, m1, hb2, hc2⟩
  have HB2 := Lib.hid hb2
  have HC2 := Lib.hid hc2
  clear m1 hb2 hc2
  by_cases h0 : m = 0
  · have h0b : (m == 0) = true := by rw [h0]; rfl
    clear h0
    go_wp2_with fail
    refine (next_any C 3 _ HC2.out (by omega)).mono ?_
    rintro e w3 ⟨x, rfl, x0, x1, hb3, hc3⟩
    have HB3 := Lib.hid (HB2.out.trans hb3)
    have HC3 := Lib.hid hc3
    have x2 : x ≤ 2 := by omega
    clear x1 hb3 hc3
    go_wp2_with fail
    go_ret
    exact ⟨_, rfl, by omega, by omega, HB3.out, HC3.out⟩
  have h0b : (m == 0) = false := by rw [beq_eq_false_iff_ne]; exact h0
  clear h0
  by_cases h1 : m = 1
  · have h1b : (m == 1) = true := by rw [h1]; rfl
    clear h1
    go_wp2_with fail
    have hlt := HC2.out.lt
    refine (next_any C 16 _ (HC2.out.below ((Below.refl _ _).alloc (Nat.le_refl _) _) hlt) (by omega)).mono ?_
    rintro e w3 ⟨x, rfl, x0, x1, hb3, hc3⟩
    obtain ⟨k, rfl⟩ := Int.eq_ofNat_of_zero_le x0
    have hk : k < 16 := by omega
    clear x1 x0
    have hcell : w3.cell? ⟨w2.heap.size, k, none⟩ = some (.int .i64 (limL.getD k 0)) := by
      rw [hb3.cell (p := ⟨w2.heap.size, k, none⟩) (by simp) (by show w2.heap.size ≠ C; omega), World.cell?_alloc_new]
      exact limV_get k hk
    have hin := limL_in ⟨k, hk⟩
    have HIN := Lib.hid hin
    clear hin
    generalize limL.getD k 0 = y at *
    have HB3 := Lib.hid ((HB2.out.alloc _).trans hb3)
    have HC3 := Lib.hid hc3
    clear hb3 hc3 hlt
    generalize w2.heap.size = b2 at *
    go_wp2_with fail
    go_ret
    exact ⟨y, rfl, HIN.out.1, HIN.out.2, HB3.out, HC3.out⟩
  · have h1b : (m == 1) = false := by rw [beq_eq_false_iff_ne]; exact h1
    clear h1
    go_wp2_with fail
    refine (next_any C 20 _ HC2.out (by omega)).mono ?_
    rintro e w3 ⟨x, rfl, x0, x1, hb3, hc3⟩
    have HB3 := Lib.hid (HB2.out.trans hb3)
    have HC3 := Lib.hid hc3
    have x2 : x ≤ 19 := by omega
    clear x1 hb3 hc3
    go_wp2_with fail
    go_ret
    exact ⟨_, rfl, by omega, by omega, HB3.out, HC3.out⟩
end Go.Proofs.Ythcjkbhkidijoaa
/- the choices of the drawing package, with how many are left: Int, Fault -/
namespace Go.Proofs.Ythcjkbhkidijoaa
open Go.RowKit
set_option maxRecDepth 20000
set_option linter.unusedSimpArgs false
set_option linter.unusedVariables false

/-- choices, of which at most so many are left -/
def CodesM (m : Nat) (w : World) (C : Nat) : Prop := CodesOk w C ∧ leftIn w C ≤ m
theorem CodesM.lt {m : Nat} {w : World} {C : Nat} (h : CodesM m w C) : C < w.heap.size := h.1.lt
theorem CodesM.below {m : Nat} {w w' : World} {C B : Nat} (h : CodesM m w C) (hb : Below B w w') (hC : C < B) : CodesM m w' C := ⟨h.1.below hb hC, by rw [leftIn_below hb hC]; exact h.2⟩
def NextM (m C : Nat) (n : Int) (w : World) (e : Ending) (w' : World) : Prop :=
  ∃ x : Int, e = .returned (.int .i64 x) ∧ 0 ≤ x ∧ (x < n ∨ x = 0) ∧ Besides C w w' ∧ CodesM m w' C
theorem next_m (m C : Nat) (n : Int) (w : World) (h : CodesM m w C) (hn : n ≤ 256) :
    Calls Try.prog 17 #[.pointer (some ⟨C, 0, none⟩), .int .i64 n] w (NextM m C n w) := by
  have hm := h.2
  by_cases h1 : 1 ≤ n
  · exact (left_small C n w h.1 h1 hn).mono fun e w' ⟨x, h1, h2, h3, h4, h5, h6⟩ => ⟨x, h1, h2, h3, h4, h5, by omega⟩
  · obtain ⟨a, len, cap, i, hc⟩ := h.1
    exact (left_neg C a len cap i n w hc (by omega)).mono fun e w' ⟨x, h1, h2, h3, h4, h5, h6⟩ => ⟨x, h1, h2, h3, h4, h5, by omega⟩
def IntM (m C : Nat) (w : World) (e : Ending) (w' : World) : Prop :=
  ∃ x : Int, e = .returned (.int .i64 x) ∧ -9223372036854775808 ≤ x ∧ x ≤ 9223372036854775807 ∧ Besides C w w' ∧ CodesM m w' C
set_option maxHeartbeats 1000000 in
theorem int_m (M0 C : Nat) (w : World) (h : CodesM M0 w C) :
    Calls Try.prog 37 #[.pointer (some ⟨C, 0, none⟩)] w (IntM M0 C w) := by
  have HK := Lib.hid h
  clear h
  go_enter Try.func37, Try.ntmps37
  go_wp2_with fail
  refine (next_m M0 C 10 _ HK.out (by omega)).mono ?_
  rintro e w2 ⟨m, rfl, m0, m1, hb2, hc2⟩
  have HB2 := Lib.hid hb2
  have HC2 := Lib.hid hc2
  clear m1 hb2 hc2
  by_cases h0 : m = 0
  · have h0b : (m == 0) = true := by rw [h0]; rfl
    clear h0
    go_wp2_with fail
    refine (next_m M0 C 3 _ HC2.out (by omega)).mono ?_
    rintro e w3 ⟨x, rfl, x0, x1, hb3, hc3⟩
    have HB3 := Lib.hid (HB2.out.trans hb3)
    have HC3 := Lib.hid hc3
    have x2 : x ≤ 2 := by omega
    clear x1 hb3 hc3
    go_wp2_with fail
    go_ret
    exact ⟨_, rfl, by omega, by omega, HB3.out, HC3.out⟩
  have h0b : (m == 0) = false := by rw [beq_eq_false_iff_ne]; exact h0
  clear h0
  by_cases h1 : m = 1
  · have h1b : (m == 1) = true := by rw [h1]; rfl
    clear h1
    go_wp2_with fail
    have hlt := HC2.out.lt
    refine (next_m M0 C 16 _ (HC2.out.below ((Below.refl _ _).alloc (Nat.le_refl _) _) hlt) (by omega)).mono ?_
    rintro e w3 ⟨x, rfl, x0, x1, hb3, hc3⟩
    obtain ⟨k, rfl⟩ := Int.eq_ofNat_of_zero_le x0
    have hk : k < 16 := by omega
    clear x1 x0
    have hcell : w3.cell? ⟨w2.heap.size, k, none⟩ = some (.int .i64 (limL.getD k 0)) := by
      rw [hb3.cell (p := ⟨w2.heap.size, k, none⟩) (by simp) (by show w2.heap.size ≠ C; omega), World.cell?_alloc_new]
      exact limV_get k hk
    have hin := limL_in ⟨k, hk⟩
    have HIN := Lib.hid hin
    clear hin
    generalize limL.getD k 0 = y at *
    have HB3 := Lib.hid ((HB2.out.alloc _).trans hb3)
    have HC3 := Lib.hid hc3
    clear hb3 hc3 hlt
    generalize w2.heap.size = b2 at *
    go_wp2_with fail
    go_ret
    exact ⟨y, rfl, HIN.out.1, HIN.out.2, HB3.out, HC3.out⟩
  · have h1b : (m == 1) = false := by rw [beq_eq_false_iff_ne]; exact h1
    clear h1
    go_wp2_with fail
    refine (next_m M0 C 20 _ HC2.out (by omega)).mono ?_
    rintro e w3 ⟨x, rfl, x0, x1, hb3, hc3⟩
    have HB3 := Lib.hid (HB2.out.trans hb3)
    have HC3 := Lib.hid hc3
    have x2 : x ≤ 19 := by omega
    clear x1 hb3 hc3
    go_wp2_with fail
    go_ret
    exact ⟨_, rfl, by omega, by omega, HB3.out, HC3.out⟩
structure DrM (m : Nat) (w : World) (C : Nat) (L : List Ob) (W : World) : Prop where
  dr : Dr w C L W
  left : leftIn W C ≤ m
theorem DrM.start {m : Nat} {w : World} {C : Nat} (h : CodesM m w C) : DrM m w C [] w := ⟨Dr.start h.1, h.2⟩
theorem DrM.codes {m : Nat} {w W : World} {C : Nat} {L : List Ob} (h : DrM m w C L W) : CodesM m W C := ⟨h.dr.codes, h.left⟩
theorem DrM.draws {m : Nat} {w W W' : World} {C : Nat} {L : List Ob} (h : DrM m w C L W) (hb : Besides C W W') (hc : CodesM m W' C) : DrM m w C L W' := ⟨h.dr.draws hb hc.1, hc.2⟩
theorem DrM.put {m : Nat} {w W : World} {C : Nat} {L : List Ob} (h : DrM m w C L W) (t : TypeId) (cs : List Value) : DrM m w C (L ++ [⟨W.heap.size, t, cs⟩]) (W.alloc (.cells cs.toArray t)) :=
  ⟨h.dr.put t cs, by rw [leftIn_below ((Below.refl _ _).alloc (Nat.le_refl _) _) h.dr.codes.lt]; exact h.left⟩
theorem DrM.ne {m : Nat} {w W : World} {C : Nat} {L : List Ob} (h : DrM m w C L W) (i : Nat) {o : Ob} (e : L[i]? = some o) : C ≠ o.b := by
  have h1 := h.dr.new _ (List.mem_of_getElem? e)
  have h2 := h.dr.lt
  omega
theorem DrM.set {m : Nat} {w W : World} {C : Nat} {L : List Ob} (h : DrM m w C L W) (i : Nat) {o : Ob} (e : L[i]? = some o) (k : Nat) (v : Value) : DrM m w C (L.set i ⟨o.b, o.t, o.cs.set k v⟩) (W.setCell ⟨o.b, k, none⟩ v) :=
  ⟨h.dr.set i e k v, by rw [leftIn_of (Below.heap_setCell _ _ _ _ (h.ne i e))]; exact h.left⟩
theorem DrM.row {m : Nat} {w W : World} {C : Nat} {L : List Ob} (h : DrM m w C L W) (i : Nat) {o : Ob} (e : L[i]? = some o) (cs : List Value) : DrM m w C (L.set i ⟨o.b, o.t, cs⟩) (W.setRow o.b cs.toArray) :=
  ⟨h.dr.row i e cs, by rw [leftIn_of (setRow_other _ _ _ _ (h.ne i e))]; exact h.left⟩
theorem DrM.get {m : Nat} {w W : World} {C : Nat} {L : List Ob} (h : DrM m w C L W) (i : Nat) {b : Nat} {t : TypeId} {cs : List Value} (e : L[i]? = some ⟨b, t, cs⟩) : W.heap[b]? = some (.cells cs.toArray t (0, 0)) := h.dr.get i e
theorem DrM.cell {m : Nat} {w W : World} {C : Nat} {L : List Ob} (h : DrM m w C L W) (i : Nat) {b : Nat} {t : TypeId} {cs : List Value} (e : L[i]? = some ⟨b, t, cs⟩) (k : Nat) {v : Value} (hv : cs[k]? = some v) : W.cell? ⟨b, k, none⟩ = some v := by
  rw [cell_of_row W b k _ _ _ (h.get i e), List.getElem?_toArray]; exact hv
theorem DrM.frozen {m : Nat} {w W : World} {C : Nat} {L : List Ob} (h : DrM m w C L W) (i : Nat) {b : Nat} {t : TypeId} {cs : List Value} (e : L[i]? = some ⟨b, t, cs⟩) (k : Nat) : W.frozen? ⟨b, k, none⟩ = false := frozen_of_row _ _ _ _ _ (h.get i e)
theorem wfm_of {n : Int} (h : -9223372036854775808 ≤ n ∧ n ≤ 9223372036854775807) : (Lit.int .i64 n).wf = true := by
  simp [Lit.wf, IntKind.min, IntKind.max, IntKind.bits, IntKind.signed]; omega
theorem wfu_of {n : Int} (h : 0 ≤ n ∧ n ≤ 255) : (Lit.int .u8 n).wf = true := by
  have e1 : IntKind.u8.min = 0 := by decide
  have e2 : IntKind.u8.max = 255 := by decide
  simp [Lit.wf, e1, e2]
  omega
theorem GoodFlt.kd {f : Flt} (h : GoodFlt f) {x : Int} (hx : -9223372036854775808 ≤ x ∧ x ≤ 9223372036854775807) : GoodFlt ⟨x, f.at_, f.page, f.target, f.byte, f.mask⟩ := ⟨wfm_of hx, h.at_, h.page, h.target, h.byte, h.mask⟩
theorem GoodFlt.at' {f : Flt} (h : GoodFlt f) {x : Int} (hx : -9223372036854775808 ≤ x ∧ x ≤ 9223372036854775807) : GoodFlt ⟨f.kind, x, f.page, f.target, f.byte, f.mask⟩ := ⟨h.kind, wfm_of hx, h.page, h.target, h.byte, h.mask⟩
theorem GoodFlt.pg {f : Flt} (h : GoodFlt f) {x : Int} (hx : -9223372036854775808 ≤ x ∧ x ≤ 9223372036854775807) : GoodFlt ⟨f.kind, f.at_, x, f.target, f.byte, f.mask⟩ := ⟨h.kind, h.at_, wfm_of hx, h.target, h.byte, h.mask⟩
theorem GoodFlt.tg {f : Flt} (h : GoodFlt f) {x : Int} (hx : -9223372036854775808 ≤ x ∧ x ≤ 9223372036854775807) : GoodFlt ⟨f.kind, f.at_, f.page, x, f.byte, f.mask⟩ := ⟨h.kind, h.at_, h.page, wfm_of hx, h.byte, h.mask⟩
theorem GoodFlt.by' {f : Flt} (h : GoodFlt f) {x : Int} (hx : -9223372036854775808 ≤ x ∧ x ≤ 9223372036854775807) : GoodFlt ⟨f.kind, f.at_, f.page, f.target, x, f.mask⟩ := ⟨h.kind, h.at_, h.page, h.target, wfm_of hx, h.mask⟩
theorem GoodFlt.mk' {f : Flt} (h : GoodFlt f) {x : Int} (hx : 0 ≤ x ∧ x ≤ 255) : GoodFlt ⟨f.kind, f.at_, f.page, f.target, f.byte, x⟩ := ⟨h.kind, h.at_, h.page, h.target, h.byte, wfu_of hx⟩
theorem goodFlt_of {kd at0 : Int} (hk : -9223372036854775808 ≤ kd ∧ kd ≤ 9223372036854775807) (ha : -9223372036854775808 ≤ at0 ∧ at0 ≤ 9223372036854775807) : GoodFlt ⟨kd, at0, 0, 0, 0, 0⟩ := by
  have z : (Lit.int .i64 0).wf = true ∧ (Lit.int .u8 0).wf = true := by decide
  exact ⟨wfm_of hk, wfm_of ha, z.1, z.1, z.1, z.2⟩
theorem build_fm (a b : Int) (W : World) : Sem.run Try.prog (Instr.build 29 #[(0, .int .i64 a), (1, .int .i64 b)]) W = .ok (.agg (fltCells ⟨a, b, 0, 0, 0, 0⟩).toArray) W := by kernel_rfl
theorem wrap_rng (x : Int) : -9223372036854775808 ≤ IntKind.i64.wrap x ∧ IntKind.i64.wrap x ≤ 9223372036854775807 := by
  rw [IntKind.wrap_i64]
  omega
set_option maxHeartbeats 8000000 in
theorem fault_m (m C : Nat) (n wr : Int) (w : World) (h : CodesM m w C) (hn : n ≤ 256) :
    Calls Try.prog 24 #[.pointer (some ⟨C, 0, none⟩), .int .i64 n, .int .i64 wr] w fun e w' => ∃ f : Flt, GoodFlt f ∧ e = .returned (.agg (fltCells f).toArray) ∧ Besides C w w' ∧ CodesM m w' C := by
  have HN := Lib.hid hn
  obtain ⟨fs2, huf⟩ := under_flt
  have HUF := Lib.hid huf
  have h1 := (DrM.start h).put 29 (fltCells fltNil)
  have HD0 : Hid (DrM m w C [⟨w.heap.size, 29, fltCells fltNil⟩] (w.alloc (.cells #[.int .i64 0, .int .i64 0, .int .i64 0, .int .i64 0, .int .i64 0, .int .u8 0] 29))) := h1
  clear h h1 huf hn
  go_enter Try.func24, Try.ntmps24
  go_wp2_with fail
  refine (next_m m C 6 _ HD0.out.codes (by omega)).mono ?_
  rintro e w2 ⟨a, rfl, a0, a1, hb, hc⟩
  have HD1 := Lib.hid (HD0.out.draws hb hc)
  have ha5 : a ≤ 5 := by omega
  have hwa : IntKind.i64.wrap (1 + a) = 1 + a := IntWalk.i64_in _ (by omega)
  clear HD0 hb hc a1
  generalize w.heap.size = b6 at *
  go_wp2_with fail
  refine (next_m m C 6 _ HD1.out.codes (by omega)).mono ?_
  rintro e w3 ⟨b, rfl, b0, b1, hb, hc⟩
  have HD2 := Lib.hid (HD1.out.draws hb hc)
  clear HD1 hb hc b0 b1
  go_upto_region 2 with (fail)
  have HD3 : Hid (DrM m w C [⟨b6, 29, fltCells fltNil⟩, ⟨w3.heap.size, 29, fltCells ⟨1 + a, wrap64 (wrap64 (wr + 1) + b), 0, 0, 0, 0⟩⟩] (w3.alloc (.cells #[.int .i64 (1 + a), .int .i64 (wrap64 (wrap64 (wr + 1) + b)), .int .i64 0, .int .i64 0, .int .i64 0, .int .u8 0] 29))) := HD2.out.put 29 (fltCells ⟨1 + a, wrap64 (wrap64 (wr + 1) + b), 0, 0, 0, 0⟩)
  have HAt : Hid (-9223372036854775808 ≤ wrap64 (wrap64 (wr + 1) + b) ∧ wrap64 (wrap64 (wr + 1) + b) ≤ 9223372036854775807) := Lib.hid (by rw [← IntWalk.i64_left]; exact wrap_rng _)
  clear HD2 hwa
  generalize wrap64 (wrap64 (wr + 1) + b) = at0 at *
  generalize w3.alloc (.cells #[.int .i64 (1 + a), .int .i64 at0, .int .i64 0, .int .i64 0, .int .i64 0, .int .u8 0] 29) = w4 at *
  generalize w3.heap.size = b7 at *
  obtain ⟨kk, hkk⟩ : ∃ kk, 1 + a = kk := ⟨_, rfl⟩
  have HK : Hid (1 ≤ kk ∧ kk ≤ 6) := Lib.hid (by omega)
  rw [hkk] at HD3
  clear hkk a0 ha5
  have c0 := HD3.out.cell 1 rfl 0 rfl
  go_upto_block 0 with fail
  clear c0
  go_cut [] (fun wx => ∃ f : Flt, GoodFlt f ∧ DrM m w C [⟨b6, 29, fltCells fltNil⟩, ⟨b7, 29, fltCells f⟩] wx)
  case first =>
    have hn6 := HN.out
    have HG0 : Hid (GoodFlt ⟨kk, at0, 0, 0, 0, 0⟩) := Lib.hid (goodFlt_of (by have := HK.out; omega) HAt.out)
    have hk6 : kk = 1 ∨ kk = 2 ∨ kk = 3 ∨ kk = 4 ∨ kk = 5 ∨ kk = 6 := by have := HK.out; omega
    clear HK HAt
    rcases hk6 with rfl | rfl | rfl | rfl | rfl | rfl
    · go_wp2_with fail
      go_meet
      exact ⟨_, HG0.out, HD3.out⟩
    · go_wp2_with fail
      refine (next_m m C n _ HD3.out.codes HN.out).mono ?_
      rintro e wa ⟨x, rfl, x0, x1, hb, hc⟩
      have HA := Lib.hid (HD3.out.draws hb hc)
      clear hb hc
      have c3 := HA.out.cell 1 rfl 3 rfl
      have g3 := HA.out.frozen 1 rfl 3
      go_wp2_with fail
      go_meet
      exact ⟨_, HG0.out.tg (x := x) (by omega), HA.out.set 1 rfl 3 (.int .i64 x)⟩
    · go_wp2_with fail
      refine (next_m m C 256 _ HD3.out.codes (by omega)).mono ?_
      rintro e wa ⟨x, rfl, x0, x1, hb, hc⟩
      have HA := Lib.hid (HD3.out.draws hb hc)
      clear hb hc
      have c4 := HA.out.cell 1 rfl 4 rfl
      have g4 := HA.out.frozen 1 rfl 4
      go_wp2_with fail
      go_meet
      exact ⟨_, HG0.out.by' (x := x) (by omega), HA.out.set 1 rfl 4 (.int .i64 x)⟩
    · go_wp2_with fail
      refine (next_m m C n _ HD3.out.codes HN.out).mono ?_
      rintro e wa ⟨x, rfl, x0, x1, hb, hc⟩
      have HA := Lib.hid (HD3.out.draws hb hc)
      clear hb hc
      go_wp2_with fail
      refine (next_m m C 256 _ HA.out.codes (by omega)).mono ?_
      rintro e wb ⟨y, rfl, y0, y1, hb, hc⟩
      have HB := Lib.hid (HA.out.draws hb hc)
      clear hb hc
      go_wp2_with fail
      refine (next_m m C 255 _ HB.out.codes (by omega)).mono ?_
      rintro e wd ⟨z, rfl, z0, z1, hb, hc⟩
      have HD := Lib.hid (HB.out.draws hb hc)
      clear hb hc
      have hz1 : IntKind.i64.wrap (1 + z) = 1 + z := IntWalk.i64_in _ (by omega)
      have hz2 : IntKind.u8.wrap (1 + z) = 1 + z := IntWalk.u8_in _ (by omega)
      have c2 := HD.out.cell 1 rfl 2 rfl
      have g2 := HD.out.frozen 1 rfl 2
      have c4 := HD.out.cell 1 rfl 4 rfl
      have g4 := HD.out.frozen 1 rfl 4
      have c5 := HD.out.cell 1 rfl 5 rfl
      have g5 := HD.out.frozen 1 rfl 5
      go_wp2_with fail
      go_meet
      exact ⟨_, ((HG0.out.pg (x := x) (by omega)).by' (x := y) (by omega)).mk' (x := 1 + z) (by omega), ((HD.out.set 1 rfl 2 (.int .i64 x)).set 1 rfl 4 (.int .i64 y)).set 1 rfl 5 (.int .u8 (1 + z))⟩
    · go_wp2_with fail
      refine (next_m m C n _ HD3.out.codes HN.out).mono ?_
      rintro e wa ⟨x, rfl, x0, x1, hb, hc⟩
      have HA := Lib.hid (HD3.out.draws hb hc)
      clear hb hc
      have c2 := HA.out.cell 1 rfl 2 rfl
      have g2 := HA.out.frozen 1 rfl 2
      go_wp2_with fail
      go_meet
      exact ⟨_, HG0.out.pg (x := x) (by omega), HA.out.set 1 rfl 2 (.int .i64 x)⟩
    · go_wp2_with fail
      go_meet
      exact ⟨_, HG0.out, HD3.out⟩
  case rest =>
    obtain ⟨f, hg, hd⟩ := hcut
    have HG := Lib.hid hg
    have HD4 := Lib.hid hd
    clear hg hd HD3 HAt HK
    generalize wc = w5 at *
    go_wp2_with fail
    refine (next_m m C 16 _ HD4.out.codes (by omega)).mono ?_
    rintro e w6 ⟨v, rfl, v0, v1, hb, hc⟩
    have HD5 := Lib.hid (HD4.out.draws hb hc)
    clear hb hc
    have hv : v = 12 ∨ v = 13 ∨ v = 14 ∨ v = 15 ∨ (0 ≤ v ∧ v < 12) := by omega
    clear v0 v1 HD4
    rcases hv with rfl | rfl | rfl | rfl | ⟨hv0, hv1⟩
    · go_wp2_with fail
      refine (int_m m C _ HD5.out.codes).mono ?_
      rintro e w7 ⟨x, rfl, x0, x1, hb, hc⟩
      have HA := Lib.hid (HD5.out.draws hb hc)
      clear hb hc
      have c1 := HA.out.cell 1 rfl 1 rfl
      have g1 := HA.out.frozen 1 rfl 1
      go_upto_region 20 with (fail)
      have HZ : Hid (DrM m w C [⟨b6, 29, fltCells fltNil⟩, ⟨b7, 29, fltCells ⟨f.kind, x, f.page, f.target, f.byte, f.mask⟩⟩] ((w7).setCell ⟨b7, 1, none⟩ (.int .i64 x))) := HA.out.set 1 rfl 1 (.int .i64 x)
      have HZg : Hid (GoodFlt ⟨f.kind, x, f.page, f.target, f.byte, f.mask⟩) := Lib.hid (HG.out.at' ⟨x0, x1⟩)
      clear HG HD5
      generalize (w7).setCell ⟨b7, 1, none⟩ (.int .i64 x) = wz at *
      go_wp2_with (first | ((with_reducible refine wpList_load_ob 29 (.tmp 7) b7 (fltCells ⟨f.kind, x, f.page, f.target, f.byte, f.mask⟩) 29 HUF.out ?_ ?_ ?_ ?_ ?_); (exact rfl); (exact HZ.out.get 1 rfl); (exact rfl); (exact info_flt); simp only [Act.put, List.setIfInBounds_toArray, List.set_cons_zero, List.set_cons_succ]) | ((with_reducible refine wpList_store_ob 29 (.tmp 6) b6 (fltCells ⟨f.kind, x, f.page, f.target, f.byte, f.mask⟩) (fltCells fltNil) 29 ?_ ?_ ?_ ?_ ?_ ?_ ?_); (exact rfl); (exact rfl); (exact HZ.out.get 0 rfl); (exact info_flt); (exact rfl); (exact (oneCell_flt _)); skip))
      have HY := Lib.hid (HZ.out.row 0 rfl (fltCells ⟨f.kind, x, f.page, f.target, f.byte, f.mask⟩))
      refine bodyPost_ret (results_ob Try.results24 _ _ b6 (fltCells ⟨f.kind, x, f.page, f.target, f.byte, f.mask⟩) 29 _ rfl (HY.out.get 0 rfl) HUF.out rfl info_flt) rfl ⟨_, HZg.out, rfl, HY.out.dr.bes, HY.out.codes⟩
    · go_wp2_with fail
      refine (int_m m C _ HD5.out.codes).mono ?_
      rintro e w7 ⟨x, rfl, x0, x1, hb, hc⟩
      have HA := Lib.hid (HD5.out.draws hb hc)
      clear hb hc
      have c2 := HA.out.cell 1 rfl 2 rfl
      have g2 := HA.out.frozen 1 rfl 2
      have c5 := HA.out.cell 1 rfl 5 rfl
      have g5 := HA.out.frozen 1 rfl 5
      go_upto_region 20 with (fail)
      have HZ : Hid (DrM m w C [⟨b6, 29, fltCells fltNil⟩, ⟨b7, 29, fltCells ⟨f.kind, f.at_, x, f.target, f.byte, 0⟩⟩] (((w7).setCell ⟨b7, 2, none⟩ (.int .i64 x)).setCell ⟨b7, 5, none⟩ (.int .u8 0))) := (HA.out.set 1 rfl 2 (.int .i64 x)).set 1 rfl 5 (.int .u8 0)
      have HZg : Hid (GoodFlt ⟨f.kind, f.at_, x, f.target, f.byte, 0⟩) := Lib.hid ((HG.out.pg ⟨x0, x1⟩).mk' (x := 0) (by decide))
      clear HG HD5
      generalize ((w7).setCell ⟨b7, 2, none⟩ (.int .i64 x)).setCell ⟨b7, 5, none⟩ (.int .u8 0) = wz at *
      go_wp2_with (first | ((with_reducible refine wpList_load_ob 29 (.tmp 7) b7 (fltCells ⟨f.kind, f.at_, x, f.target, f.byte, 0⟩) 29 HUF.out ?_ ?_ ?_ ?_ ?_); (exact rfl); (exact HZ.out.get 1 rfl); (exact rfl); (exact info_flt); simp only [Act.put, List.setIfInBounds_toArray, List.set_cons_zero, List.set_cons_succ]) | ((with_reducible refine wpList_store_ob 29 (.tmp 6) b6 (fltCells ⟨f.kind, f.at_, x, f.target, f.byte, 0⟩) (fltCells fltNil) 29 ?_ ?_ ?_ ?_ ?_ ?_ ?_); (exact rfl); (exact rfl); (exact HZ.out.get 0 rfl); (exact info_flt); (exact rfl); (exact (oneCell_flt _)); skip))
      have HY := Lib.hid (HZ.out.row 0 rfl (fltCells ⟨f.kind, f.at_, x, f.target, f.byte, 0⟩))
      refine bodyPost_ret (results_ob Try.results24 _ _ b6 (fltCells ⟨f.kind, f.at_, x, f.target, f.byte, 0⟩) 29 _ rfl (HY.out.get 0 rfl) HUF.out rfl info_flt) rfl ⟨_, HZg.out, rfl, HY.out.dr.bes, HY.out.codes⟩
    · go_wp2_with fail
      refine (int_m m C _ HD5.out.codes).mono ?_
      rintro e w7 ⟨x, rfl, x0, x1, hb, hc⟩
      have HA := Lib.hid (HD5.out.draws hb hc)
      clear hb hc
      go_wp2_with fail
      refine (int_m m C _ HA.out.codes).mono ?_
      rintro e w8 ⟨y, rfl, y0, y1, hb, hc⟩
      have HB := Lib.hid (HA.out.draws hb hc)
      clear hb hc
      have c3 := HB.out.cell 1 rfl 3 rfl
      have g3 := HB.out.frozen 1 rfl 3
      have c4 := HB.out.cell 1 rfl 4 rfl
      have g4 := HB.out.frozen 1 rfl 4
      go_upto_region 20 with (fail)
      have HZ : Hid (DrM m w C [⟨b6, 29, fltCells fltNil⟩, ⟨b7, 29, fltCells ⟨f.kind, f.at_, f.page, x, y, f.mask⟩⟩] (((w8).setCell ⟨b7, 3, none⟩ (.int .i64 x)).setCell ⟨b7, 4, none⟩ (.int .i64 y))) := (HB.out.set 1 rfl 3 (.int .i64 x)).set 1 rfl 4 (.int .i64 y)
      have HZg : Hid (GoodFlt ⟨f.kind, f.at_, f.page, x, y, f.mask⟩) := Lib.hid ((HG.out.tg ⟨x0, x1⟩).by' ⟨y0, y1⟩)
      clear HG HD5
      generalize ((w8).setCell ⟨b7, 3, none⟩ (.int .i64 x)).setCell ⟨b7, 4, none⟩ (.int .i64 y) = wz at *
      go_wp2_with (first | ((with_reducible refine wpList_load_ob 29 (.tmp 7) b7 (fltCells ⟨f.kind, f.at_, f.page, x, y, f.mask⟩) 29 HUF.out ?_ ?_ ?_ ?_ ?_); (exact rfl); (exact HZ.out.get 1 rfl); (exact rfl); (exact info_flt); simp only [Act.put, List.setIfInBounds_toArray, List.set_cons_zero, List.set_cons_succ]) | ((with_reducible refine wpList_store_ob 29 (.tmp 6) b6 (fltCells ⟨f.kind, f.at_, f.page, x, y, f.mask⟩) (fltCells fltNil) 29 ?_ ?_ ?_ ?_ ?_ ?_ ?_); (exact rfl); (exact rfl); (exact HZ.out.get 0 rfl); (exact info_flt); (exact rfl); (exact (oneCell_flt _)); skip))
      have HY := Lib.hid (HZ.out.row 0 rfl (fltCells ⟨f.kind, f.at_, f.page, x, y, f.mask⟩))
      refine bodyPost_ret (results_ob Try.results24 _ _ b6 (fltCells ⟨f.kind, f.at_, f.page, x, y, f.mask⟩) 29 _ rfl (HY.out.get 0 rfl) HUF.out rfl info_flt) rfl ⟨_, HZg.out, rfl, HY.out.dr.bes, HY.out.codes⟩
    · go_wp2_with fail
      refine (next_m m C 9 _ HD5.out.codes (by omega)).mono ?_
      rintro e w7 ⟨x, rfl, x0, x1, hb, hc⟩
      have HA := Lib.hid (HD5.out.draws hb hc)
      clear hb hc
      have hx1 : IntKind.i64.wrap (x - 1) = x - 1 := IntWalk.i64_in _ (by omega)
      have c0 := HA.out.cell 1 rfl 0 rfl
      have g0 := HA.out.frozen 1 rfl 0
      go_upto_region 20 with (fail)
      have HZ : Hid (DrM m w C [⟨b6, 29, fltCells fltNil⟩, ⟨b7, 29, fltCells ⟨x - 1, f.at_, f.page, f.target, f.byte, f.mask⟩⟩] ((w7).setCell ⟨b7, 0, none⟩ (.int .i64 (x - 1)))) := HA.out.set 1 rfl 0 (.int .i64 (x - 1))
      have HZg : Hid (GoodFlt ⟨x - 1, f.at_, f.page, f.target, f.byte, f.mask⟩) := Lib.hid (HG.out.kd (x := x - 1) (by omega))
      clear HG HD5
      generalize (w7).setCell ⟨b7, 0, none⟩ (.int .i64 (x - 1)) = wz at *
      go_wp2_with (first | ((with_reducible refine wpList_load_ob 29 (.tmp 7) b7 (fltCells ⟨x - 1, f.at_, f.page, f.target, f.byte, f.mask⟩) 29 HUF.out ?_ ?_ ?_ ?_ ?_); (exact rfl); (exact HZ.out.get 1 rfl); (exact rfl); (exact info_flt); simp only [Act.put, List.setIfInBounds_toArray, List.set_cons_zero, List.set_cons_succ]) | ((with_reducible refine wpList_store_ob 29 (.tmp 6) b6 (fltCells ⟨x - 1, f.at_, f.page, f.target, f.byte, f.mask⟩) (fltCells fltNil) 29 ?_ ?_ ?_ ?_ ?_ ?_ ?_); (exact rfl); (exact rfl); (exact HZ.out.get 0 rfl); (exact info_flt); (exact rfl); (exact (oneCell_flt _)); skip))
      have HY := Lib.hid (HZ.out.row 0 rfl (fltCells ⟨x - 1, f.at_, f.page, f.target, f.byte, f.mask⟩))
      refine bodyPost_ret (results_ob Try.results24 _ _ b6 (fltCells ⟨x - 1, f.at_, f.page, f.target, f.byte, f.mask⟩) 29 _ rfl (HY.out.get 0 rfl) HUF.out rfl info_flt) rfl ⟨_, HZg.out, rfl, HY.out.dr.bes, HY.out.codes⟩
    · have hn1 : ¬ v = 12 := by omega
      have hn2 : ¬ v = 13 := by omega
      have hn3 : ¬ v = 14 := by omega
      have hn4 : ¬ v = 15 := by omega
      clear hv0 hv1
      go_upto_region 20 with (fail)
      have HZ : Hid (DrM m w C [⟨b6, 29, fltCells fltNil⟩, ⟨b7, 29, fltCells f⟩] (w6)) := HD5.out
      have HZg : Hid (GoodFlt f) := Lib.hid HG.out
      have wz := w6
      go_wp2_with (first | ((with_reducible refine wpList_load_ob 29 (.tmp 7) b7 (fltCells f) 29 HUF.out ?_ ?_ ?_ ?_ ?_); (exact rfl); (exact HZ.out.get 1 rfl); (exact rfl); (exact info_flt); simp only [Act.put, List.setIfInBounds_toArray, List.set_cons_zero, List.set_cons_succ]) | ((with_reducible refine wpList_store_ob 29 (.tmp 6) b6 (fltCells f) (fltCells fltNil) 29 ?_ ?_ ?_ ?_ ?_ ?_ ?_); (exact rfl); (exact rfl); (exact HZ.out.get 0 rfl); (exact info_flt); (exact rfl); (exact (oneCell_flt _)); skip))
      have HY := Lib.hid (HZ.out.row 0 rfl (fltCells f))
      refine bodyPost_ret (results_ob Try.results24 _ _ b6 (fltCells f) 29 _ rfl (HY.out.get 0 rfl) HUF.out rfl info_flt) rfl ⟨_, HZg.out, rfl, HY.out.dr.bes, HY.out.codes⟩
end Go.Proofs.Ythcjkbhkidijoaa
/- within a drawing function: things in new memory beside choices that were there before -/
namespace Go.Proofs.Ythcjkbhkidijoaa
open Go.RowKit
set_option maxRecDepth 20000
set_option linter.unusedSimpArgs false
set_option linter.unusedVariables false

/-- things in memory that is new since w, while only the choices C of the elder memory change -/
structure DrH (w : World) (C : Nat) (L : List Th) (W : World) : Prop where
  bes : Besides C w W
  codes : CodesOk W C
  lt : C < w.heap.size
  off : ∀ x ∈ L, ∀ b ∈ x.reads, w.heap.size ≤ b
  nocd : ∀ x ∈ L, ∀ c, x ≠ .cd c
  hp : ∃ w', w'.heap.size = w.heap.size ∧ Hp w' L W
theorem DrH.start {w : World} {C : Nat} (h : CodesOk w C) : DrH w C [] w := ⟨Besides.refl _ _, h, h.lt, by simp, by simp, w, rfl, Hp.start w⟩
theorem DrH.step {w W W' : World} {C : Nat} {L L' : List Th} (h : DrH w C L W) (hs : W.heap.size ≤ W'.heap.size) (H : ∀ w', w'.heap.size = w.heap.size → Hp w' L W → Hp w' L' W') (hr : ∀ x ∈ L', ∀ b ∈ x.reads, w.heap.size ≤ b) (hc : ∀ x ∈ L', ∀ c, x ≠ .cd c) : DrH w C L' W' := by
  obtain ⟨bes, cod, lt, _, _, w', e, hp⟩ := h
  have hp' := H w' e hp
  have hk : ∀ k, k < w.heap.size → W'.heap[k]? = W.heap[k]? := fun k hk => (hp'.old.block k (by omega)).trans (hp.old.block k (by omega)).symm
  have hb : Below w.heap.size W W' := ⟨hp'.old.os.trans hp.old.os.symm, hp'.old.tape.trans hp.old.tape.symm, hp'.old.output.trans hp.old.output.symm, hs, hk⟩
  have hw : w.heap.size ≤ W'.heap.size := Nat.le_trans bes.size hs
  exact ⟨⟨hb.os.trans bes.os, hb.tape.trans bes.tape, hb.output.trans bes.output, hw, fun k h1 h2 => (hk k h1).trans (bes.block k h1 h2), fun hC => (World.cell?_of_block (a := ⟨C, 0, none⟩) (hk C lt)).trans (bes.head hC)⟩, cod.below hb lt, lt, hr, hc, w', e, hp'⟩
theorem DrH.all {w W : World} {C : Nat} {L : List Th} (h : DrH w C L W) : ∀ x ∈ L, x.In w.heap.size W := by
  obtain ⟨_, _, _, _, _, w', e, hp⟩ := h
  intro x hx
  rw [← e]
  exact hp.all x hx
theorem DrH.nd {w W : World} {C : Nat} {L : List Th} (h : DrH w C L W) : L.Pairwise Th.Apart := by
  obtain ⟨_, _, _, _, _, w', e, hp⟩ := h
  exact hp.nd
theorem DrH.in {w W : World} {C : Nat} {L : List Th} (h : DrH w C L W) (i : Nat) {x : Th} (e : L[i]? = some x) : x.In w.heap.size W := h.all _ (List.mem_of_getElem? e)
theorem DrH.get {w W : World} {C : Nat} {L : List Th} (h : DrH w C L W) (i : Nat) {b : Nat} {t : TypeId} {cs : List Value} (e : L[i]? = some (.ob b t cs)) : W.heap[b]? = some (.cells cs.toArray t (0, 0)) := (h.in i e).2
theorem DrH.at {w W : World} {C : Nat} {L : List Th} (h : DrH w C L W) (i : Nat) {b : Nat} {t : TypeId} {cs : List Value} (e : L[i]? = some (.ob b t cs)) (k : Nat) {v : Value} (hv : cs[k]? = some v) : W.cell? ⟨b, k, none⟩ = some v := by
  rw [cell_of_row W b k _ _ _ (h.get i e), List.getElem?_toArray]; exact hv
theorem DrH.frozen {w W : World} {C : Nat} {L : List Th} (h : DrH w C L W) (i : Nat) {b : Nat} {t : TypeId} {cs : List Value} (e : L[i]? = some (.ob b t cs)) (k : Nat) : W.frozen? ⟨b, k, none⟩ = false := frozen_of_row _ _ _ _ _ (h.get i e)
theorem DrH.reads {w W : World} {C : Nat} {L : List Th} (h : DrH w C L W) (i : Nat) {R : List Rng} (e : L[i]? = some (.rd R)) : RdIn W R := h.in i e
theorem DrH.pick {w W : World} {C : Nat} {L M : List Th} (h : DrH w C L W) (is : List Nat) (e : is.map (fun i => L[i]?) = M.map some) : Hold w.heap.size M W := fun x hx => by
  have : some x ∈ M.map some := List.mem_map.2 ⟨x, hx, rfl⟩
  rw [← e, List.mem_map] at this
  obtain ⟨i, _, hi⟩ := this
  exact h.in i hi
theorem pull_mem {L M : List Th} (is : List Nat) (e : is.map (fun i => L[i]?) = M.map some) {x : Th} (hx : x ∈ M) : x ∈ L := by
  have : some x ∈ M.map some := List.mem_map.2 ⟨x, hx, rfl⟩
  rw [← e, List.mem_map] at this
  obtain ⟨i, _, hi⟩ := this
  exact List.mem_of_getElem? hi
theorem DrH.pull {w W : World} {C : Nat} {L M : List Th} (h : DrH w C L W) (is : List Nat) (e : is.map (fun i => L[i]?) = M.map some) (hn : M.Pairwise Th.Apart) : DrH w C M W :=
  h.step (Nat.le_refl _) (fun _ _ hp => hp.pull is e hn) (fun x hx => h.off x (pull_mem is e hx)) (fun x hx => h.nocd x (pull_mem is e hx))
theorem DrH.drew {w W : World} {C : Nat} {L : List Th} (h : DrH w C L W) : DrH w C L W.drew := h.step (Nat.le_refl _) (fun _ _ hp => hp.drew) h.off h.nocd
theorem DrH.calls {w W W' : World} {C : Nat} {L : List Th} (h : DrH w C L W) (hb : Below W.heap.size W W') : DrH w C L W' := h.step hb.size (fun _ _ hp => hp.calls hb) h.off h.nocd
theorem DrH.put {w W : World} {C : Nat} {L : List Th} (h : DrH w C L W) (t : TypeId) (cs : List Value) : DrH w C (L ++ [.ob W.heap.size t cs]) (W.alloc (.cells cs.toArray t)) :=
  h.step ((Below.refl W.heap.size W).alloc (Nat.le_refl _) _).size (fun _ _ hp => hp.put t cs) (fun x hx => by
    rcases List.mem_append.1 hx with hx | hx
    · exact h.off x hx
    · obtain rfl := List.mem_singleton.1 hx
      exact fun b hb => absurd hb List.not_mem_nil) (fun x hx => by
    rcases List.mem_append.1 hx with hx | hx
    · exact h.nocd x hx
    · obtain rfl := List.mem_singleton.1 hx
      intro c hc
      cases hc)
theorem DrH.row {w W : World} {C : Nat} {L : List Th} (h : DrH w C L W) (i : Nat) {b : Nat} {t : TypeId} {cs : List Value} (e : L[i]? = some (.ob b t cs)) (cs' : List Value) : DrH w C (L.set i (.ob b t cs')) (W.setRow b cs'.toArray) :=
  h.step (by simp [World.setRow]) (fun _ _ hp => hp.row i e cs') (fun x hx => by
    rcases List.mem_or_eq_of_mem_set hx with hx | rfl
    · exact h.off x hx
    · exact fun b hb => absurd hb List.not_mem_nil) (fun x hx => by
    rcases List.mem_or_eq_of_mem_set hx with hx | rfl
    · exact h.nocd x hx
    · intro c hc
      cases hc)
theorem DrH.set {w W : World} {C : Nat} {L : List Th} (h : DrH w C L W) (i : Nat) {b : Nat} {t : TypeId} {cs : List Value} (e : L[i]? = some (.ob b t cs)) (k : Nat) (v : Value) : DrH w C (L.set i (.ob b t (cs.set k v))) (W.setCell ⟨b, k, none⟩ v) :=
  h.step (by simp [World.setCell]) (fun _ _ hp => hp.set i e k v) (fun x hx => by
    rcases List.mem_or_eq_of_mem_set hx with hx | rfl
    · exact h.off x hx
    · exact fun b hb => absurd hb List.not_mem_nil) (fun x hx => by
    rcases List.mem_or_eq_of_mem_set hx with hx | rfl
    · exact h.nocd x hx
    · intro c hc
      cases hc)
theorem DrH.addrd {w W W' : World} {C : Nat} {L : List Th} (h : DrH w C L W) (hb : Below W.heap.size W W') (R : List Rng) (hR : RdIn W' R) (hr : ∀ r ∈ R, W.heap.size ≤ r.1 ∨ ∃ z ∈ L, r.1 ∈ z.reads) : DrH w C (L ++ [.rd R]) W' :=
  h.step hb.size (fun _ _ hp => hp.addrd hb R hR hr) (fun x hx => by
    rcases List.mem_append.1 hx with hx | hx
    · exact h.off x hx
    · obtain rfl := List.mem_singleton.1 hx
      intro b hb
      obtain ⟨r, hr', rfl⟩ := List.mem_map.1 hb
      rcases hr r hr' with h1 | ⟨z, hz, h1⟩
      · have := h.bes.size
        omega
      · exact h.off z hz _ h1) (fun x hx => by
    rcases List.mem_append.1 hx with hx | hx
    · exact h.nocd x hx
    · obtain rfl := List.mem_singleton.1 hx
      intro c hc
      cases hc)
theorem keep_nocd {B : Nat} {W W' : World} {x : Th} (h : x.In B W) (hc : ∀ c, x ≠ .cd c) (hs : W.heap.size ≤ W'.heap.size) (hx : ∀ b, x.blk = some b → W'.heap[b]? = W.heap[b]?) (hr : ∀ b ∈ x.reads, W'.heap[b]? = W.heap[b]?) : x.In B W' := by
  cases x with
  | ob c t cs => exact ⟨h.1, (hx c rfl).trans h.2⟩
  | sl v e z n xs =>
    refine ⟨h.1, ?_⟩
    rcases h.2 with h0 | ⟨g, cap, cur, hv, hB, hg, hr⟩
    · exact .inl h0
    · exact .inr ⟨g, cap, cur, hv, hB, (hx g (by rw [hv]; rfl)).trans hg, hr⟩
  | cd C => exact absurd rfl (hc C)
  | rd R => exact RdIn.keep h hs hr
theorem DrH.draws {w W W' : World} {C : Nat} {L : List Th} (h : DrH w C L W) (hb : Besides C W W') (hc : CodesOk W' C) : DrH w C L W' := by
  obtain ⟨bes, cod, lt, off, nocd, w', e, hp⟩ := h
  have hsz : w.heap.size ≤ W'.heap.size := Nat.le_trans bes.size hb.size
  have e2 : (W'.heap.extract 0 w.heap.size).size = w.heap.size := by rw [Array.size_extract]; omega
  refine ⟨bes.trans hb, hc, lt, off, nocd, { W' with heap := W'.heap.extract 0 w.heap.size }, e2, ⟨rfl, rfl, rfl, ?_, fun k hk => ?_⟩, fun x hx => ?_, hp.nd⟩
  · show (W'.heap.extract 0 w.heap.size).size ≤ W'.heap.size
    omega
  · have hk' : k < (W'.heap.extract 0 w.heap.size).size := hk
    show W'.heap[k]? = (W'.heap.extract 0 w.heap.size)[k]?
    rw [Array.getElem?_extract]
    rw [if_pos (by omega)]
    simp
  · show x.In (W'.heap.extract 0 w.heap.size).size W'
    rw [e2, ← e]
    exact keep_nocd (hp.all x hx) (nocd x hx) hb.size (fun b h1 => hb.block b ((hp.all x hx).from h1).2 (by have := ((hp.all x hx).from h1).1; omega)) (fun b h1 => hb.block b ((hp.all x hx).reads_lt h1) (by have := off x hx b h1; omega))
theorem set_off {P : Th → Prop} {L : List Th} (h : ∀ x ∈ L, P x) (i : Nat) {y : Th} (hy : P y) : ∀ x ∈ L.set i y, P x := fun x hx => by
  rcases List.mem_or_eq_of_mem_set hx with hx | rfl
  · exact h x hx
  · exact hy
theorem DrH.own {w W : World} {C : Nat} {L : List Th} (h : DrH w C L W) (i : Nat) {v : Value} {t : TypeId} {z n : Nat} {xs : List Value} (e : L[i]? = some (.sl v t z n xs)) : W.ownsRow w.heap.size t z v n xs := h.in i e
theorem DrH.ne {w W : World} {C : Nat} {L : List Th} (h : DrH w C L W) (i j : Nat) {x y : Th} {b c : Nat} (ei : L[i]? = some x) (ej : L[j]? = some y) (hij : i ≠ j) (hb : x.blk = some b) (hc : y.blk = some c) : b ≠ c := fun e => by
  subst e
  exact (apart_at h.nd i j x y ei ej hij).1 b hb |>.1 hc
theorem DrH.lt' {w W : World} {C : Nat} {L : List Th} (h : DrH w C L W) (i : Nat) {x : Th} {b : Nat} (e : L[i]? = some x) (hb : x.blk = some b) : w.heap.size ≤ b ∧ b < W.heap.size := (h.in i e).from hb
theorem DrH.grown {w W W' : World} {C : Nat} {L : List Th} (h : DrH w C L W) (i : Nat) {v v' : Value} {t : TypeId} {z n m : Nat} {xs ys : List Value} (e : L[i]? = some (.sl v t z n xs)) (ho : W'.ownsRow w.heap.size t z v' m ys) (hg : W.grownBy W' v.ownBlock) (hb : v'.ownBlock = v.ownBlock ∨ v'.ownBlock = some W.heap.size) : DrH w C (L.set i (.sl v' t z m ys)) W' :=
  h.step hg.size (fun w' ew hp => hp.grown i e (by rw [ew]; exact ho) hg hb) (set_off h.off i (fun b hb => absurd hb List.not_mem_nil)) (set_off h.nocd i (fun c hc => by cases hc))
theorem DrH.join {w W W' : World} {C : Nat} {L M : List Th} (h : DrH w C L W) (k : Hp W M W') (hM : ∀ y ∈ M, y.reads = [] ∧ ∀ C, y ≠ .cd C) : DrH w C (L ++ M) W' :=
  h.step k.old.size (fun _ _ hp => hp.join k hM) (fun x hx => by
    rcases List.mem_append.1 hx with hx | hx
    · exact h.off x hx
    · intro b hb
      rw [(hM x hx).1] at hb
      cases hb) (fun x hx => by
    rcases List.mem_append.1 hx with hx | hx
    · exact h.nocd x hx
    · exact (hM x hx).2)
theorem DrH.append {w W : World} {C : Nat} {L : List Th} (h : DrH w C L W) (i : Nat) {v : Value} {e : TypeId} {z n : Nat} {xs : List Value} (ei : L[i]? = some (.sl v e z n xs)) (j : Nat) {b : Nat} {t' : TypeId} {ys : List Value} (ej : L[j]? = some (.ob b t' ys))
    (ts : TypeId) (ty : TypeId) {bytes : Nat} (ht : Try.prog.underlying ts = some (.slice e)) (he : ElemIs e z bytes) (m c : Nat) (hl : ys.length = m * z) (h1 : ∀ u ∈ ys, u.oneCell' = true) (hn : n + m ≤ 1048576) :
    ∃ v' W', (Builtin.append_ #[ts, ts] ty #[v, .slice (some ⟨b, 0, none⟩) m c]).run Try.prog W = .ok v' W' ∧ DrH w C (L.set i (.sl v' e z (n + m) (xs ++ ys))) W' ∧ (v' = .slice none 0 0 ↔ v = .slice none 0 0 ∧ m = 0) := by
  obtain ⟨inf, zv, hi, hz, hsize, hby, hzs⟩ := he.is
  have hroom := he.room
  have hcell : ∀ q u, ys[q]? = some u → W.cell? ((⟨b, 0, none⟩ : Addr).add q) = some u := fun q u hu => by
    rw [Addr.add_mid, Nat.zero_add]
    exact h.at j ej q hu
  obtain ⟨v', W', hr, h2, h3, h4, h5⟩ := run_append_own_at (P := Try.prog) W w.heap.size ts ty e inf zv z bytes ht hi hz hsize hby hzs he.pos v n xs (h.own i ei) ⟨b, 0, none⟩ m c ys hl hcell h1 (by unfold maxLen; omega) (by
    have := Nat.mul_le_mul hn hroom
    omega) h.bes.size
  exact ⟨v', W', hr, h.grown i ei h2 h3 h5, h4⟩
theorem wp_append_dr {o : Oper} {a : Act} {w W : World} {K : Act → World → Prop} {Q : Exit → Act → World → Prop} {C : Nat} {L : List Th} (h : DrH w C L W) (s x : Operand) (ts : TypeId) (ho : o.op = .call { callee := .builtin .append, args := #[s, x], argTypes := #[ts, ts] })
    (i : Nat) {v : Value} {e : TypeId} {z n : Nat} {xs : List Value} (ei : L[i]? = some (.sl v e z n xs)) (j : Nat) {b : Nat} {t' : TypeId} {ys : List Value} (ej : L[j]? = some (.ob b t' ys)) {bytes : Nat} (ht : Try.prog.underlying ts = some (.slice e)) (he : ElemIs e z bytes) (m c : Nat)
    (hs : a.eval s = v) (hx : a.eval x = .slice (some ⟨b, 0, none⟩) m c) (hl : ys.length = m * z) (h1 : ∀ u ∈ ys, u.oneCell' = true) (hn : n + m ≤ 1048576)
    (hk : ∀ v' W', DrH w C (L.set i (.sl v' e z (n + m) (xs ++ ys))) W' → (v' = .slice none 0 0 ↔ v = .slice none 0 0 ∧ m = 0) → K (a.put o.dst v') W') : o.wp Try.prog a W K Q := by
  obtain ⟨v', W', hr, h2, h3⟩ := h.append i ei j ej ts o.type ht he m c hl h1 hn
  unfold Oper.wp execOp
  simp only [ho, resolve, invoke, builtin, Sem.run_bind, Sem.run_pure, Result.andThen_ok, List.map_toArray, List.map_cons, List.map_nil, hs, hx, hr]
  exact hk v' W' h2 h3
theorem wpList_append_dr {ops : Array Oper} {rest : List Oper} {a : Act} {w W : World} {Q : Exit → Act → World → Prop} {d : Option Tmp} {ty : TypeId} {pos : String} {aft : Array Edge} {C : Nat} {L : List Th} (h : DrH w C L W) (s x : Operand) (ts : TypeId)
    (i : Nat) {v : Value} {e : TypeId} {z n : Nat} {xs : List Value} (ei : L[i]? = some (.sl v e z n xs)) (j : Nat) {b : Nat} {t' : TypeId} {ys : List Value} (ej : L[j]? = some (.ob b t' ys)) {bytes : Nat} (ht : Try.prog.underlying ts = some (.slice e)) (he : ElemIs e z bytes) (m c : Nat)
    (hs : a.eval s = v) (hx : a.eval x = .slice (some ⟨b, 0, none⟩) m c) (hl : ys.length = m * z) (h1 : ∀ u ∈ ys, u.oneCell' = true) (hn : n + m ≤ 1048576)
    (hk : ∀ v' W', DrH w C (L.set i (.sl v' e z (n + m) (xs ++ ys))) W' → (v' = .slice none 0 0 ↔ v = .slice none 0 0 ∧ m = 0) → wpList Try.prog ops Q rest (a.put d v') W') :
    wpList Try.prog ops Q ({ dst := d, op := .call { callee := .builtin .append, args := #[s, x], argTypes := #[ts, ts] }, type := ty, pos := pos, after := aft, guard := none } :: rest) a W :=
  wpList_plain rfl fun _ hK => wp_append_dr h s x ts rfl i ei j ej ht he m c hs hx hl h1 hn (fun v' W' p q => hK _ _ (hk v' W' p q))
end Go.Proofs.Ythcjkbhkidijoaa
/- the reference's place -/
namespace Go.Proofs.Ythcjkbhkidijoaa
open Go.RowKit
set_option maxRecDepth 20000
set_option linter.unusedSimpArgs false
set_option linter.unusedVariables false

/-- a slice that a callee made stands where it is asked for -/
theorem Hp.insOwn {w W W' : World} (L1 : List Th) {L2 : List Th} (h : Hp w (L1 ++ L2) W) (hb : Below W.heap.size W W') {v : Value} {t : TypeId} {z n : Nat} {xs : List Value} (ho : W'.ownsRow W.heap.size t z v n xs) : Hp w (L1 ++ (.sl v t z n xs :: L2)) W' :=
  (h.addown hb ho).perm (by
    rw [List.append_assoc]
    exact List.Perm.append_left _ List.perm_append_comm)
set_option maxHeartbeats 8000000 in
theorem place_any {w0 W : World} {M : List Th} {p u : Value} {d : Dv} {fa : Option Addr} {fl fc : Nat} (s : ByteArray) (k n : Nat) (h : Hp w0 (.sl p 9 1 d.pages.length (strRow d.pages) :: .sl u 3 1 d.unread.length (intRow d.unread) :: M) W) (hk : k < d.pages.length) (hold : ∀ s ∈ d.pages, s.size = 256) (hs : s.size = 256) (hn : n ≤ 256) (hu : d.unread.length ≤ 1000) :
    Calls Try.prog 48 #[.agg (dvCells p d u (.slice fa fl fc)).toArray, .int .i64 k, .string s, .int .i64 n] W fun e W' => ∃ u', e = .returned (.agg (dvCells p (placeR d k s n) u' (.slice fa fl fc)).toArray) ∧ Hp w0 (.sl p 9 1 (placeR d k s n).pages.length (strRow (placeR d k s n).pages) :: .sl u' 3 1 (placeR d k s n).unread.length (intRow (placeR d k s n).unread) :: M) W' := by
  have hpo := h.own 0 rfl
  rcases hpo.2 with ⟨_, h0⟩ | ⟨g, cap, cur, rfl, hB, hg, h1, h2, h3, h4⟩
  · omega
  obtain ⟨a, c, rfl⟩ := own_slice (h.own 1 rfl)
  obtain ⟨y, hy⟩ : ∃ y, d.pages[k] = y := ⟨_, rfl⟩
  have hys : y.size = 256 := by rw [← hy]; exact hold _ (List.getElem_mem hk)
  have hyD : d.pages.getD k ⟨#[]⟩ = y := by rw [List.getD_eq_getElem?_getD, List.getElem?_eq_getElem hk]; exact hy
  have HP : Hid (placeR d k s n = ⟨d.pages.set k (s.extract 0 n ++ y.extract n 256), d.writes, withoutR d.unread k, d.dead, d.faults⟩) := by show _ = _; unfold placeR; rw [Int.toNat_natCast, hyD]
  obtain ⟨fs, hud⟩ := under_dv
  have HUD := Lib.hid hud
  have h5 := (h.ins [_, _] 27 (dvCells (.slice (some ⟨g, 0, none⟩) d.pages.length cap) d (.slice a d.unread.length c) (.slice fa fl fc))).ins [_, _, _] 27 (dvCells nilS dvNil nilS nilS)
  simp only [World.size_alloc, List.cons_append, List.nil_append] at h5
  have HS0 : Hid (Hp w0 ((.sl (.slice (some ⟨g, 0, none⟩) d.pages.length cap) 9 1 d.pages.length (strRow d.pages)) :: (.sl (.slice a d.unread.length c) 3 1 d.unread.length (intRow d.unread)) :: .ob W.heap.size 27 (dvCells (.slice (some ⟨g, 0, none⟩) d.pages.length cap) d (.slice a d.unread.length c) (.slice fa fl fc)) :: .ob (W.heap.size + 1) 27 (dvCells nilS dvNil nilS nilS) :: M) ((W.alloc (.cells (dvCells (.slice (some ⟨g, 0, none⟩) d.pages.length cap) d (.slice a d.unread.length c) (.slice fa fl fc)).toArray 27)).alloc (.cells #[.slice none 0 0, .int .i64 0, .slice none 0 0, .bool false, .slice none 0 0] 27))) := h5
  have HPat : Hid ((strRow d.pages)[k]? = some (.string y)) := by show _ = _; rw [strRow_at d.pages k hk, hy]
  have HU := Lib.hid hu
  have HKl := Lib.hid hk
  have hk0 : (0 : Int) ≤ (k : Int) := by omega
  have hkn : (k : Int) < (d.pages.length : Int) := by omega
  have hn0 : (0 : Int) ≤ (n : Int) := by omega
  have hnn : (n : Int) ≤ 256 := by omega
  have hcc : ¬ 9223372036854775807 < min n 256 + (256 - n) := by omega
  clear h h5 hud hk hold hu hpo hB hg h1 h2 h3 h4 hy hyD hn
  go_enter Try.func48, Try.ntmps48
  go_upto_region 1 with (fail)
  generalize ((W.alloc (.cells (dvCells (.slice (some ⟨g, 0, none⟩) d.pages.length cap) d (.slice a d.unread.length c) (.slice fa fl fc)).toArray 27)).alloc (.cells #[.slice none 0 0, .int .i64 0, .slice none 0 0, .bool false, .slice none 0 0] 27)) = w1 at *
  generalize W.heap.size + 1 = b8 at *
  generalize W.heap.size = b4 at *
  have hcell := (HS0.out.drew.slcell 0 rfl k HPat.out).1
  have hfz := (HS0.out.drew.slcell 0 rfl k HPat.out).2
  have b0 := HS0.out.drew.at 2 rfl 0 rfl
  go_region
  clear b0 hcell hfz hk0 hkn hn0 hnn hcc
  have HS1 : Hid (Hp w0 ((.sl (.slice (some ⟨g, 0, none⟩) d.pages.length cap) 9 1 d.pages.length (strRow (d.pages.set k (s.extract 0 n ++ y.extract n 256)))) :: (.sl (.slice a d.unread.length c) 3 1 d.unread.length (intRow d.unread)) :: .ob b4 27 (dvCells (.slice (some ⟨g, 0, none⟩) d.pages.length cap) d (.slice a d.unread.length c) (.slice fa fl fc)) :: .ob b8 27 (dvCells nilS dvNil nilS nilS) :: M) ((w1.setCell ⟨g, k, none⟩ (.string (s.extract 0 n ++ y.extract n 256))).drew)) := by
    have h := (HS0.out.slset 0 rfl k HKl.out (.string (s.extract 0 n ++ y.extract n 256))).drew
    rw [strRow_set] at h
    exact Lib.hid h
  clear HS0
  generalize (w1.setCell ⟨g, k, none⟩ (.string (s.extract 0 n ++ y.extract n 256))).drew = w2 at *
  have b2 := HS1.out.at 2 rfl 2 rfl
  obtain ⟨R, hv, hR, _⟩ := own_reads (HS1.out.own 1 rfl)
  have hcall := without_any d.unread (k : Int) _ R w2 hv hR HU.out
  clear hv hR
  go_wp2_with fail
  refine hcall.mono ?_
  rintro e w3 ⟨u', rfl, hb, ho⟩
  have HS2 := Lib.hid (Hp.del [_, _] (HS1.out.insOwn [_] hb ho))
  clear hcall hb ho b2
  obtain ⟨a', c', rfl⟩ := own_slice (HS2.out.own 1 rfl)
  have b2 := HS2.out.at 2 rfl 2 rfl
  have f2 := HS2.out.frozen 2 rfl 2
  go_upto_region 3 with (fail)
  have HS3 : Hid (Hp w0 ((.sl (.slice (some ⟨g, 0, none⟩) d.pages.length cap) 9 1 d.pages.length (strRow (d.pages.set k (s.extract 0 n ++ y.extract n 256)))) :: (.sl (.slice a' (withoutR d.unread k).length c') 3 1 (withoutR d.unread k).length (intRow (withoutR d.unread k))) :: .ob b4 27 (dvCells (.slice (some ⟨g, 0, none⟩) d.pages.length cap) (⟨d.pages.set k (s.extract 0 n ++ y.extract n 256), d.writes, withoutR d.unread k, d.dead, d.faults⟩ : Dv) (.slice a' (withoutR d.unread k).length c') (.slice fa fl fc)) :: .ob b8 27 (dvCells nilS dvNil nilS nilS) :: M) (w3.setCell ⟨b4, 2, none⟩ (.slice a' (withoutR d.unread k).length c'))) := HS2.out.set 2 rfl 2 (.slice a' (withoutR d.unread k).length c')
  clear HS1 HS2 b2 f2
  generalize w3.setCell ⟨b4, 2, none⟩ (.slice a' (withoutR d.unread k).length c') = w4 at *
  go_wp2_with (first | ((with_reducible refine wpList_load_ob 27 (.tmp 4) b4 (dvCells (.slice (some ⟨g, 0, none⟩) d.pages.length cap) (⟨d.pages.set k (s.extract 0 n ++ y.extract n 256), d.writes, withoutR d.unread k, d.dead, d.faults⟩ : Dv) (.slice a' (withoutR d.unread k).length c') (.slice fa fl fc)) 27 HUD.out ?_ ?_ ?_ ?_ ?_); (exact rfl); (exact HS3.out.get 2 rfl); (exact rfl); (exact info_dv); simp only [Act.put, List.setIfInBounds_toArray, List.set_cons_zero, List.set_cons_succ]) | ((with_reducible refine wpList_store_ob 27 (.tmp 8) b8 (dvCells (.slice (some ⟨g, 0, none⟩) d.pages.length cap) (⟨d.pages.set k (s.extract 0 n ++ y.extract n 256), d.writes, withoutR d.unread k, d.dead, d.faults⟩ : Dv) (.slice a' (withoutR d.unread k).length c') (.slice fa fl fc)) (dvCells nilS dvNil nilS nilS) 27 ?_ ?_ ?_ ?_ ?_ ?_ ?_); (exact rfl); (exact rfl); (exact HS3.out.get 3 rfl); (exact info_dv); (exact rfl); (exact (oneCell_dv _ _ _ _ _ _ _ _ _ _)); skip))
  have HS4 := Lib.hid (HS3.out.row 3 rfl (dvCells (.slice (some ⟨g, 0, none⟩) d.pages.length cap) (⟨d.pages.set k (s.extract 0 n ++ y.extract n 256), d.writes, withoutR d.unread k, d.dead, d.faults⟩ : Dv) (.slice a' (withoutR d.unread k).length c') (.slice fa fl fc)))
  refine bodyPost_ret (results_ob Try.results48 _ _ b8 (dvCells (.slice (some ⟨g, 0, none⟩) d.pages.length cap) (⟨d.pages.set k (s.extract 0 n ++ y.extract n 256), d.writes, withoutR d.unread k, d.dead, d.faults⟩ : Dv) (.slice a' (withoutR d.unread k).length c') (.slice fa fl fc)) 27 _ rfl (HS4.out.get 3 rfl) HUD.out rfl info_dv) rfl ⟨.slice a' (withoutR d.unread k).length c', ?_⟩
  rw [HP.out]
  refine ⟨rfl, ?_⟩
  have h := Hp.del [_, _] (Hp.del [_, _, _] HS4.out)
  show Hp w0 (.sl (.slice (some ⟨g, 0, none⟩) d.pages.length cap) _ 1 (d.pages.set k (s.extract 0 n ++ y.extract n 256)).length _ :: _) _
  rw [List.length_set]
  exact h
end Go.Proofs.Ythcjkbhkidijoaa
