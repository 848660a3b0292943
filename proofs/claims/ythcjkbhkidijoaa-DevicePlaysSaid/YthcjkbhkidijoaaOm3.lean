/- texts of a claim, one after the other: the library's copies of a device's slices, the program's copied, the walk of the reference's Inject, the program's Inject, what the program's Write is made of, the program's Write, the reference's place -/
import Derived.Test.YthcjkbhkidijoaaOm1
import Derived.WalkSpells
import Derived.Test.YthcjkbhkidijoaaOm2
/- the library's copies of a device's slices -/
namespace Go.Proofs.Ythcjkbhkidijoaa
open Go.RowKit
set_option maxRecDepth 20000
set_option linter.unusedSimpArgs false
set_option linter.unusedVariables false

set_option maxHeartbeats 4000000 in
theorem cloneS_any (l : List ByteArray) (v : Value) (R : List Rng) (w : World) (hv : SlRd v 1 l.length (strRow l) R) (hR : RdIn w R) (hl : l.length ≤ 1000) :
    Calls Try.prog 60 #[v] w fun e w' => ∃ u, e = .returned u ∧ Below w.heap.size w w' ∧ w'.ownsRow w.heap.size 9 1 u l.length (strRow l) := by
  have HV := Lib.hid hv
  have HR := Lib.hid hR
  have HL := Lib.hid hl
  obtain ⟨a, cap, rfl, h1, h2, h3, h4, h5⟩ := hv
  have HUT : Hid (Try.prog.underlying 23 = some (.slice 9)) := Try.underlying23
  have hq : ∀ W, Sem.run Try.prog (binOp .eql 23 (.slice a l.length cap) (.slice none 0 0)) W = .ok (.bool a.isNone) W := fun W => Lib.run_eql_slice_nil W _ _ a l.length cap 0 0 HUT.out
  clear hR hl
  cases a with
  | none =>
    have hq2 : ∀ W, Sem.run Try.prog (binOp .eql 23 (.slice none l.length cap) (.slice none 0 0)) W = .ok (.bool true) W := hq
    have hc := h5 rfl
    have hn : l.length = 0 := by omega
    have HX : Hid (Below w.heap.size w w ∧ w.ownsRow w.heap.size 9 1 (.slice none 0 0) l.length (strRow l)) := ⟨Below.refl _ _, by rw [hn]; exact ⟨by rw [h1, hn], .inl ⟨rfl, rfl⟩⟩⟩
    clear h1 h2 h3 h4 h5 hq hc
    rw [hn] at hq2
    rw [hn]
    go_enter Try.func60, Try.ntmps60
    go_wp2_with fail
    go_ret
    refine ⟨_, rfl, ?_⟩
    have h := HX.out
    rw [hn] at h
    exact h
  | some a =>
    have h0 := (Hp.start w).put 9 []
    have HS0 : Hid (Hp w [.sl (.slice (some ⟨w.heap.size, 0, none⟩) 0 0) 9 1 0 []] (w.alloc (.cells #[] 9))) :=
      (Hp.start w).addown ((Below.refl _ _).alloc (Nat.le_refl _) _) ⟨by simp, .inr ⟨w.heap.size, 0, #[], rfl, Nat.le_refl _, heap_alloc_last w _, Nat.le_refl _, Nat.zero_le _, by simp, by simp⟩⟩
    clear h0 h1 h2 h3 h4 h5
    go_enter Try.func60, Try.ntmps60
    go_wp2_with (first | ((with_reducible refine wpList_append_sl (HS0.out) (.tmp 5) (.tmp 6) 23 0 (v := .slice (some ⟨w.heap.size, 0, none⟩) 0 0) (n := 0) (xs := []) ?_ (xv := .slice (some a) l.length cap) (m := l.length) (ys := strRow l) (R := R) ?_ ?_ HUT.out elem_s ?_ ?_ ?_ ?_ ?_); (exact rfl); (exact HV.out); (exact HR.out.below HS0.out.old); (exact rfl); (exact rfl); (exact (one_strs _)); (exact (by have := HL.out; omega))))
    intro v1 w1 hs
    have hs2 : Hp w [.sl v1 9 1 (0 + l.length) ([] ++ strRow l)] w1 := hs
    clear hs HS0
    rw [Nat.zero_add, List.nil_append] at hs2
    have HA := Lib.hid hs2
    clear hs2
    go_wp2_with fail
    go_ret
    exact ⟨_, rfl, HA.out.old, HA.out.own 0 rfl⟩
set_option maxHeartbeats 4000000 in
theorem cloneI_any (l : List Int) (v : Value) (R : List Rng) (w : World) (hv : SlRd v 1 l.length (intRow l) R) (hR : RdIn w R) (hl : l.length ≤ 1000) :
    Calls Try.prog 61 #[v] w fun e w' => ∃ u, e = .returned u ∧ Below w.heap.size w w' ∧ w'.ownsRow w.heap.size 3 1 u l.length (intRow l) := by
  have HV := Lib.hid hv
  have HR := Lib.hid hR
  have HL := Lib.hid hl
  obtain ⟨a, cap, rfl, h1, h2, h3, h4, h5⟩ := hv
  have HUT : Hid (Try.prog.underlying 24 = some (.slice 3)) := Try.underlying24
  have hq : ∀ W, Sem.run Try.prog (binOp .eql 24 (.slice a l.length cap) (.slice none 0 0)) W = .ok (.bool a.isNone) W := fun W => Lib.run_eql_slice_nil W _ _ a l.length cap 0 0 HUT.out
  clear hR hl
  cases a with
  | none =>
    have hq2 : ∀ W, Sem.run Try.prog (binOp .eql 24 (.slice none l.length cap) (.slice none 0 0)) W = .ok (.bool true) W := hq
    have hc := h5 rfl
    have hn : l.length = 0 := by omega
    have HX : Hid (Below w.heap.size w w ∧ w.ownsRow w.heap.size 3 1 (.slice none 0 0) l.length (intRow l)) := ⟨Below.refl _ _, by rw [hn]; exact ⟨by rw [h1, hn], .inl ⟨rfl, rfl⟩⟩⟩
    clear h1 h2 h3 h4 h5 hq hc
    rw [hn] at hq2
    rw [hn]
    go_enter Try.func61, Try.ntmps61
    go_wp2_with fail
    go_ret
    refine ⟨_, rfl, ?_⟩
    have h := HX.out
    rw [hn] at h
    exact h
  | some a =>
    have h0 := (Hp.start w).put 3 []
    have HS0 : Hid (Hp w [.sl (.slice (some ⟨w.heap.size, 0, none⟩) 0 0) 3 1 0 []] (w.alloc (.cells #[] 3))) :=
      (Hp.start w).addown ((Below.refl _ _).alloc (Nat.le_refl _) _) ⟨by simp, .inr ⟨w.heap.size, 0, #[], rfl, Nat.le_refl _, heap_alloc_last w _, Nat.le_refl _, Nat.zero_le _, by simp, by simp⟩⟩
    clear h0 h1 h2 h3 h4 h5
    go_enter Try.func61, Try.ntmps61
    go_wp2_with (first | ((with_reducible refine wpList_append_sl (HS0.out) (.tmp 5) (.tmp 6) 24 0 (v := .slice (some ⟨w.heap.size, 0, none⟩) 0 0) (n := 0) (xs := []) ?_ (xv := .slice (some a) l.length cap) (m := l.length) (ys := intRow l) (R := R) ?_ ?_ HUT.out elem_i ?_ ?_ ?_ ?_ ?_); (exact rfl); (exact HV.out); (exact HR.out.below HS0.out.old); (exact rfl); (exact rfl); (exact (one_ints _)); (exact (by have := HL.out; omega))))
    intro v1 w1 hs
    have hs2 : Hp w [.sl v1 3 1 (0 + l.length) ([] ++ intRow l)] w1 := hs
    clear hs HS0
    rw [Nat.zero_add, List.nil_append] at hs2
    have HA := Lib.hid hs2
    clear hs2
    go_wp2_with fail
    go_ret
    exact ⟨_, rfl, HA.out.old, HA.out.own 0 rfl⟩
set_option maxHeartbeats 4000000 in
theorem cloneF_any (l : List Flt) (v : Value) (R : List Rng) (w : World) (hv : SlRd v 6 l.length (fltRow l) R) (hR : RdIn w R) (hl : l.length ≤ 1000) :
    Calls Try.prog 41 #[v] w fun e w' => ∃ u, e = .returned u ∧ Below w.heap.size w w' ∧ w'.ownsRow w.heap.size 29 6 u l.length (fltRow l) := by
  have HV := Lib.hid hv
  have HR := Lib.hid hR
  have HL := Lib.hid hl
  obtain ⟨a, cap, rfl, h1, h2, h3, h4, h5⟩ := hv
  have HUT : Hid (Try.prog.underlying 25 = some (.slice 29)) := Try.underlying25
  have hq : ∀ W, Sem.run Try.prog (binOp .eql 25 (.slice a l.length cap) (.slice none 0 0)) W = .ok (.bool a.isNone) W := fun W => Lib.run_eql_slice_nil W _ _ a l.length cap 0 0 HUT.out
  clear hR hl
  cases a with
  | none =>
    have hq2 : ∀ W, Sem.run Try.prog (binOp .eql 25 (.slice none l.length cap) (.slice none 0 0)) W = .ok (.bool true) W := hq
    have hc := h5 rfl
    have hn : l.length = 0 := by omega
    have HX : Hid (Below w.heap.size w w ∧ w.ownsRow w.heap.size 29 6 (.slice none 0 0) l.length (fltRow l)) := ⟨Below.refl _ _, by rw [hn]; exact ⟨by rw [h1, hn], .inl ⟨rfl, rfl⟩⟩⟩
    clear h1 h2 h3 h4 h5 hq hc
    rw [hn] at hq2
    rw [hn]
    go_enter Try.func41, Try.ntmps41
    go_wp2_with fail
    go_ret
    refine ⟨_, rfl, ?_⟩
    have h := HX.out
    rw [hn] at h
    exact h
  | some a =>
    have h0 := (Hp.start w).put 29 []
    have HS0 : Hid (Hp w [.sl (.slice (some ⟨w.heap.size, 0, none⟩) 0 0) 29 6 0 []] (w.alloc (.cells #[] 29))) :=
      (Hp.start w).addown ((Below.refl _ _).alloc (Nat.le_refl _) _) ⟨by simp, .inr ⟨w.heap.size, 0, #[], rfl, Nat.le_refl _, heap_alloc_last w _, Nat.le_refl _, Nat.zero_le _, by simp, by simp⟩⟩
    clear h0 h1 h2 h3 h4 h5
    go_enter Try.func41, Try.ntmps41
    go_wp2_with (first | ((with_reducible refine wpList_append_sl (HS0.out) (.tmp 5) (.tmp 6) 25 0 (v := .slice (some ⟨w.heap.size, 0, none⟩) 0 0) (n := 0) (xs := []) ?_ (xv := .slice (some a) l.length cap) (m := l.length) (ys := fltRow l) (R := R) ?_ ?_ HUT.out elem_flt ?_ ?_ ?_ ?_ ?_); (exact rfl); (exact HV.out); (exact HR.out.below HS0.out.old); (exact rfl); (exact rfl); (exact (one_flts _)); (exact (by have := HL.out; omega))))
    intro v1 w1 hs
    have hs2 : Hp w [.sl v1 29 6 (0 + l.length) ([] ++ fltRow l)] w1 := hs
    clear hs HS0
    rw [Nat.zero_add, List.nil_append] at hs2
    have HA := Lib.hid hs2
    clear hs2
    go_wp2_with fail
    go_ret
    exact ⟨_, rfl, HA.out.old, HA.out.own 0 rfl⟩
end Go.Proofs.Ythcjkbhkidijoaa
/- the program's copied -/
namespace Go.Proofs.Ythcjkbhkidijoaa
open Go.RowKit
set_option maxRecDepth 20000
set_option linter.unusedSimpArgs false
set_option linter.unusedVariables false

set_option maxHeartbeats 4000000 in
theorem copied_any {p u f : Value} {d : Dv} {R : List Rng} (w : World) (h : DvRd p u f d R) (hR : RdIn w R) (hp : d.pages.length ≤ 1000) (hu : d.unread.length ≤ 1000) (hf : d.faults.length ≤ 1000) :
    Calls Try.prog 39 #[.agg (dvCells p d u f).toArray] w fun e w' => ∃ v, e = .returned v ∧ OwnDv w w' v d := by
  have HC1 : Hid (∀ W, Below w.heap.size w W → Calls Try.prog 60 #[p] W fun e w' => ∃ u, e = .returned u ∧ Below W.heap.size W w' ∧ w'.ownsRow W.heap.size 9 1 u d.pages.length (strRow d.pages)) := fun W hb => cloneS_any d.pages p R W h.pages (hR.below hb) hp
  have HC2 : Hid (∀ W, Below w.heap.size w W → Calls Try.prog 61 #[u] W fun e w' => ∃ u, e = .returned u ∧ Below W.heap.size W w' ∧ w'.ownsRow W.heap.size 3 1 u d.unread.length (intRow d.unread)) := fun W hb => cloneI_any d.unread u R W h.unread (hR.below hb) hu
  have HC3 : Hid (∀ W, Below w.heap.size w W → Calls Try.prog 41 #[f] W fun e w' => ∃ u, e = .returned u ∧ Below W.heap.size W w' ∧ w'.ownsRow W.heap.size 29 6 u d.faults.length (fltRow d.faults)) := fun W hb => cloneF_any d.faults f R W h.faults (hR.below hb) hf
  obtain ⟨fs, hud⟩ := under_dv
  have HUD := Lib.hid hud
  obtain ⟨pa, pc, rfl, _⟩ := h.pages
  obtain ⟨ua, uc, rfl, _⟩ := h.unread
  obtain ⟨fa, fc, rfl, _⟩ := h.faults
  clear h hR hp hu hf hud
  have h1 := ((Hp.start w).put 27 (dvCells (.slice pa d.pages.length pc) d (.slice ua d.unread.length uc) (.slice fa d.faults.length fc))).put 27 (dvCells nilS dvNil nilS nilS)
  simp only [World.size_alloc, List.nil_append, List.cons_append] at h1
  have HS0 : Hid (Hp w [.ob w.heap.size 27 (dvCells (.slice pa d.pages.length pc) d (.slice ua d.unread.length uc) (.slice fa d.faults.length fc)), .ob (w.heap.size + 1) 27 (dvCells nilS dvNil nilS nilS)] ((w.alloc (.cells #[.slice pa d.pages.length pc, .int .i64 d.writes, .slice ua d.unread.length uc, .bool d.dead, .slice fa d.faults.length fc] 27)).alloc (.cells #[.slice none 0 0, .int .i64 0, .slice none 0 0, .bool false, .slice none 0 0] 27))) := h1
  clear h1
  show Calls Try.prog 39 #[.agg #[.slice pa d.pages.length pc, .int .i64 d.writes, .slice ua d.unread.length uc, .bool d.dead, .slice fa d.faults.length fc]] w _
  go_enter Try.func39, Try.ntmps39
  go_wp2_with fail
  refine (HC1.out _ HS0.out.old).mono ?_
  rintro e w1 ⟨v, rfl, hb, ho⟩
  obtain ⟨a1, c1, rfl⟩ := own_slice ho
  have HA1 : Hid (Hp w [.ob w.heap.size 27 (dvCells (.slice pa d.pages.length pc) d (.slice ua d.unread.length uc) (.slice fa d.faults.length fc)), .ob (w.heap.size + 1) 27 (dvCells nilS dvNil nilS nilS), .sl (.slice a1 d.pages.length c1) 9 1 d.pages.length (strRow d.pages)] w1) := HS0.out.addown hb ho
  clear hb ho HS0 HC1
  have k0 : w1.cell? ⟨w.heap.size, 0, none⟩ = some (.slice pa d.pages.length pc) := HA1.out.at 0 rfl 0 rfl
  have z0 : w1.frozen? ⟨w.heap.size, 0, none⟩ = false := HA1.out.frozen 0 rfl 0
  have HB1 : Hid (Hp w [.ob w.heap.size 27 (dvCells (.slice a1 d.pages.length c1) d (.slice ua d.unread.length uc) (.slice fa d.faults.length fc)), .ob (w.heap.size + 1) 27 (dvCells nilS dvNil nilS nilS), .sl (.slice a1 d.pages.length c1) 9 1 d.pages.length (strRow d.pages)] (w1.setCell ⟨w.heap.size, 0, none⟩ (.slice a1 d.pages.length c1))) := HA1.out.set 0 rfl 0 (.slice a1 d.pages.length c1)
  have m0 : (w1.setCell ⟨w.heap.size, 0, none⟩ (.slice a1 d.pages.length c1)).cell? ⟨w.heap.size, 2, none⟩ = some (.slice ua d.unread.length uc) := HB1.out.at 0 rfl 2 rfl
  go_wp2_with fail
  refine (HC2.out _ HB1.out.old).mono ?_
  rintro e w2 ⟨v, rfl, hb, ho⟩
  obtain ⟨a2, c2, rfl⟩ := own_slice ho
  have HA2 : Hid (Hp w [.ob w.heap.size 27 (dvCells (.slice a1 d.pages.length c1) d (.slice ua d.unread.length uc) (.slice fa d.faults.length fc)), .ob (w.heap.size + 1) 27 (dvCells nilS dvNil nilS nilS), .sl (.slice a1 d.pages.length c1) 9 1 d.pages.length (strRow d.pages), .sl (.slice a2 d.unread.length c2) 3 1 d.unread.length (intRow d.unread)] w2) := HB1.out.addown hb ho
  clear hb ho HB1 HC2
  have k1 : w2.cell? ⟨w.heap.size, 2, none⟩ = some (.slice ua d.unread.length uc) := HA2.out.at 0 rfl 2 rfl
  have z1 : w2.frozen? ⟨w.heap.size, 2, none⟩ = false := HA2.out.frozen 0 rfl 2
  have HB2 : Hid (Hp w [.ob w.heap.size 27 (dvCells (.slice a1 d.pages.length c1) d (.slice a2 d.unread.length c2) (.slice fa d.faults.length fc)), .ob (w.heap.size + 1) 27 (dvCells nilS dvNil nilS nilS), .sl (.slice a1 d.pages.length c1) 9 1 d.pages.length (strRow d.pages), .sl (.slice a2 d.unread.length c2) 3 1 d.unread.length (intRow d.unread)] (w2.setCell ⟨w.heap.size, 2, none⟩ (.slice a2 d.unread.length c2))) := HA2.out.set 0 rfl 2 (.slice a2 d.unread.length c2)
  have m1 : (w2.setCell ⟨w.heap.size, 2, none⟩ (.slice a2 d.unread.length c2)).cell? ⟨w.heap.size, 4, none⟩ = some (.slice fa d.faults.length fc) := HB2.out.at 0 rfl 4 rfl
  go_wp2_with fail
  refine (HC3.out _ HB2.out.old).mono ?_
  rintro e w3 ⟨v, rfl, hb, ho⟩
  obtain ⟨a3, c3, rfl⟩ := own_slice ho
  have HA3 : Hid (Hp w [.ob w.heap.size 27 (dvCells (.slice a1 d.pages.length c1) d (.slice a2 d.unread.length c2) (.slice fa d.faults.length fc)), .ob (w.heap.size + 1) 27 (dvCells nilS dvNil nilS nilS), .sl (.slice a1 d.pages.length c1) 9 1 d.pages.length (strRow d.pages), .sl (.slice a2 d.unread.length c2) 3 1 d.unread.length (intRow d.unread), .sl (.slice a3 d.faults.length c3) 29 6 d.faults.length (fltRow d.faults)] w3) := HB2.out.addown hb ho
  clear hb ho HB2 HC3
  have k2 : w3.cell? ⟨w.heap.size, 4, none⟩ = some (.slice fa d.faults.length fc) := HA3.out.at 0 rfl 4 rfl
  have z2 : w3.frozen? ⟨w.heap.size, 4, none⟩ = false := HA3.out.frozen 0 rfl 4
  have HB3 : Hid (Hp w [.ob w.heap.size 27 (dvCells (.slice a1 d.pages.length c1) d (.slice a2 d.unread.length c2) (.slice a3 d.faults.length c3)), .ob (w.heap.size + 1) 27 (dvCells nilS dvNil nilS nilS), .sl (.slice a1 d.pages.length c1) 9 1 d.pages.length (strRow d.pages), .sl (.slice a2 d.unread.length c2) 3 1 d.unread.length (intRow d.unread), .sl (.slice a3 d.faults.length c3) 29 6 d.faults.length (fltRow d.faults)] (w3.setCell ⟨w.heap.size, 4, none⟩ (.slice a3 d.faults.length c3))) := HA3.out.set 0 rfl 4 (.slice a3 d.faults.length c3)
  go_wp2_with (first | ((with_reducible refine wpList_load_ob 27 (.tmp 1) w.heap.size (dvCells (.slice a1 d.pages.length c1) d (.slice a2 d.unread.length c2) (.slice a3 d.faults.length c3)) 27 HUD.out ?_ ?_ ?_ ?_ ?_); (exact rfl); (exact HB3.out.get 0 rfl); (exact rfl); (exact info_dv); simp only [Act.put, List.setIfInBounds_toArray, List.set_cons_zero, List.set_cons_succ]) | ((with_reducible refine wpList_store_ob 27 (.tmp 2) (w.heap.size + 1) (dvCells (.slice a1 d.pages.length c1) d (.slice a2 d.unread.length c2) (.slice a3 d.faults.length c3)) (dvCells nilS dvNil nilS nilS) 27 ?_ ?_ ?_ ?_ ?_ ?_ ?_); (exact rfl); (exact rfl); (exact HB3.out.get 1 rfl); (exact info_dv); (exact rfl); (exact (oneCell_dv _ _ _ _ _ _ _ _ _ _)); skip))
  have HC : Hid (Hp w [.ob w.heap.size 27 (dvCells (.slice a1 d.pages.length c1) d (.slice a2 d.unread.length c2) (.slice a3 d.faults.length c3)), .ob (w.heap.size + 1) 27 (dvCells (.slice a1 d.pages.length c1) d (.slice a2 d.unread.length c2) (.slice a3 d.faults.length c3)), .sl (.slice a1 d.pages.length c1) 9 1 d.pages.length (strRow d.pages), .sl (.slice a2 d.unread.length c2) 3 1 d.unread.length (intRow d.unread), .sl (.slice a3 d.faults.length c3) 29 6 d.faults.length (fltRow d.faults)] ((w3.setCell ⟨w.heap.size, 4, none⟩ (.slice a3 d.faults.length c3)).setRow (w.heap.size + 1) (dvCells (.slice a1 d.pages.length c1) d (.slice a2 d.unread.length c2) (.slice a3 d.faults.length c3)).toArray)) := HB3.out.row 1 rfl (dvCells (.slice a1 d.pages.length c1) d (.slice a2 d.unread.length c2) (.slice a3 d.faults.length c3))
  refine bodyPost_ret (results_ob Try.results39 _ _ (w.heap.size + 1) (dvCells (.slice a1 d.pages.length c1) d (.slice a2 d.unread.length c2) (.slice a3 d.faults.length c3)) 27 _ rfl (HC.out.get 1 rfl) HUD.out rfl info_dv) rfl ?_
  exact ⟨_, rfl, (.slice a1 d.pages.length c1), (.slice a2 d.unread.length c2), (.slice a3 d.faults.length c3), rfl, HC.out.pull [2, 3, 4] rfl (pull_nd HC.out.nd [2, 3, 4] rfl (by decide))⟩
end Go.Proofs.Ythcjkbhkidijoaa
/- the walk of the reference's Inject -/
namespace Go.Proofs.Ythcjkbhkidijoaa
open Go.RowKit
set_option maxRecDepth 20000

/-- what a callee made, beside what the walk has -/
theorem Hp.join {w W W' : World} {L M : List Th} (h : Hp w L W) (k : Hp W M W') (hM : ∀ y ∈ M, y.reads = [] ∧ ∀ C, y ≠ .cd C) : Hp w (L ++ M) W' := by
  have h' := h.calls k.old
  refine ⟨h'.old, fun x hx => ?_, ?_⟩
  · rcases List.mem_append.1 hx with hx | hx
    · exact h'.all x hx
    · have hk := k.all x hx
      cases x with
      | ob b t cs => exact ⟨Nat.le_trans h.old.size hk.1, hk.2⟩
      | sl v e z n xs =>
        refine ⟨hk.1, ?_⟩
        rcases hk.2 with h0 | ⟨g, cap, cur, hv, hB, hr⟩
        · exact .inl h0
        · exact .inr ⟨g, cap, cur, hv, Nat.le_trans h.old.size hB, hr⟩
      | cd C => exact absurd rfl ((hM _ hx).2 C)
      | rd R => exact hk
  · rw [List.pairwise_append]
    refine ⟨h.nd, k.nd, fun a ha b hb => ⟨fun c hac => ⟨fun hbc => ?_, fun hr => ?_⟩, fun c hbc har => ?_⟩⟩
    · have h1 := ((h.all a ha).from hac).2
      have h2 := ((k.all b hb).from hbc).1
      omega
    · rw [(hM b hb).1] at hr
      cases hr
    · have h1 := (h.all a ha).reads_lt har
      have h2 := ((k.all b hb).from hbc).1
      omega
theorem three_sl {a b c : Th} (ha : a.reads = [] ∧ ∀ C, a ≠ .cd C) (hb : b.reads = [] ∧ ∀ C, b ≠ .cd C) (hc : c.reads = [] ∧ ∀ C, c ≠ .cd C) : ∀ y ∈ [a, b, c], y.reads = [] ∧ ∀ C, y ≠ .cd C := by
  intro y hy
  simp only [List.mem_cons, List.not_mem_nil, or_false] at hy
  rcases hy with rfl | rfl | rfl
  · exact ha
  · exact hb
  · exact hc
theorem sl_plain (v : Value) (e : TypeId) (z n : Nat) (xs : List Value) : (Th.sl v e z n xs).reads = [] ∧ ∀ C, Th.sl v e z n xs ≠ .cd C := ⟨rfl, fun C h => by cases h⟩
/-- three slices of the walk's own read as a device -/
theorem own_dv {B : Nat} {W : World} {p u f : Value} {d : Dv} (hp : W.ownsRow B 9 1 p d.pages.length (strRow d.pages)) (hu : W.ownsRow B 3 1 u d.unread.length (intRow d.unread)) (hf : W.ownsRow B 29 6 f d.faults.length (fltRow d.faults)) :
    ∃ R, DvRd p u f d R ∧ RdIn W R ∧ ∀ r ∈ R, B ≤ r.1 := by
  obtain ⟨R1, a1, b1, c1⟩ := own_reads hp
  obtain ⟨R2, a2, b2, c2⟩ := own_reads hu
  obtain ⟨R3, a3, b3, c3⟩ := own_reads hf
  refine ⟨R1 ++ (R2 ++ R3), ⟨a1.mono (by simp +contextual), a2.mono (by simp +contextual), a3.mono (by simp +contextual)⟩, b1.append (b2.append b3), fun r hr => ?_⟩
  rcases List.mem_append.1 hr with h | h
  · exact (c1 r h).1
  · rcases List.mem_append.1 h with h | h
    · exact (c2 r h).1
    · exact (c3 r h).1
theorem one_flt (x : Flt) : ∀ u ∈ fltCells x, u.oneCell' = true := by
  intro u hu
  simp only [fltCells, List.mem_cons, List.not_mem_nil, or_false] at hu
  rcases hu with rfl | rfl | rfl | rfl | rfl | rfl <;> rfl
theorem fltRow_snoc (l : List Flt) (x : Flt) : fltRow (l ++ [x]) = fltRow l ++ ([fltCells x] : List (List Value)).flatMap id := by
  unfold fltRow
  rw [List.flatMap_append]
  rfl
set_option linter.unusedSimpArgs false in
set_option maxHeartbeats 8000000 in
theorem rinject_any {p u f : Value} {d : Dv} {R : List Rng} (x : Flt) (w : World) (h : DvRd p u f d R) (hR : RdIn w R) (hg : GoodDv d) (hx : GoodFlt x) (hp : d.pages.length ≤ 1000) (hf : d.faults.length ≤ 1000) :
    Calls Try.prog 26 #[.agg (dvCells p d u f).toArray, .agg (fltCells x).toArray] w (DvPost w R (injectR d x)) := by
  have HV : Hid (∀ W, Below w.heap.size w W → Calls Try.prog 23 #[.agg (dvCells p d u f).toArray] W fun e w' => e = .returned (.bool (dvOkB d)) ∧ Below W.heap.size W w') := fun W hb => rvalid_any W h (hR.below hb) hg.faults hg.pages hg.unread
  have HCp : Hid (∀ W, Below w.heap.size w W → Calls Try.prog 36 #[.agg (dvCells p d u f).toArray] W fun e w' => ∃ v, e = .returned v ∧ OwnDv W w' v d) := fun W hb => copy_any W h (hR.below hb) hp hg.unread hf
  have HLf := Lib.hid hf
  obtain ⟨fs, hud⟩ := under_dv
  have HUD := Lib.hid hud
  obtain ⟨fs2, huf⟩ := under_flt
  have HUF := Lib.hid huf
  have HUX : Hid (Try.prog.underlying 25 = some (.slice 29)) := Try.underlying25
  clear hud huf hp
  obtain ⟨pa, pc, rfl, p1, _, p2⟩ := h.pages.open hR
  obtain ⟨ua, uc, rfl, u1, _, u2⟩ := h.unread.open hR
  obtain ⟨fa, fc, rfl, f1, _, f2⟩ := h.faults.open hR
  have HFl : Hid (∀ W, Calls Try.prog 53 #[.agg (dvCells (.slice pa d.pages.length pc) d (.slice ua d.unread.length uc) (.slice fa d.faults.length fc)).toArray, .agg (fltCells x).toArray] W fun e w' => e = .returned (.bool (fltOkB d.pages.length d.writes x)) ∧ Below W.heap.size W w') := fun W => rfault_any pa d.pages.length pc d.writes _ d.dead _ x W hx
  clear h hR hg p2 u2 f2 hx hf
  have h1 := (((Hp.start w).put 27 (dvCells (.slice pa d.pages.length pc) d (.slice ua d.unread.length uc) (.slice fa d.faults.length fc))).put 29 (fltCells x)).put 27 (dvCells nilS dvNil nilS nilS)
  simp only [World.size_alloc, List.nil_append, List.cons_append] at h1
  have HS0 : Hid (Hp w [.ob w.heap.size 27 (dvCells (.slice pa d.pages.length pc) d (.slice ua d.unread.length uc) (.slice fa d.faults.length fc)), .ob (w.heap.size + 1) 29 (fltCells x), .ob (w.heap.size + 1 + 1) 27 (dvCells nilS dvNil nilS nilS)] (((w.alloc (.cells (dvCells (.slice pa d.pages.length pc) d (.slice ua d.unread.length uc) (.slice fa d.faults.length fc)).toArray 27)).alloc (.cells (fltCells x).toArray 29)).alloc (.cells #[.slice none 0 0, .int .i64 0, .slice none 0 0, .bool false, .slice none 0 0] 27))) := h1
  clear h1
  go_enter Try.func26, Try.ntmps26
  go_wp2_with (first | ((with_reducible refine wpList_load_ob 27 (.tmp 2) (w.heap.size) (dvCells (.slice pa d.pages.length pc) d (.slice ua d.unread.length uc) (.slice fa d.faults.length fc)) 27 HUD.out ?_ ?_ ?_ ?_ ?_); (exact rfl); (exact (HS0.out).get 0 rfl); (exact rfl); (exact info_dv); simp only [Act.put, List.setIfInBounds_toArray, List.set_cons_zero, List.set_cons_succ]))
  refine (HV.out _ (HS0.out).old).mono ?_
  rintro e w3 ⟨rfl, hb⟩
  have HS2 : Hid (Hp w [.ob (w.heap.size) 27 (dvCells (.slice pa d.pages.length pc) d (.slice ua d.unread.length uc) (.slice fa d.faults.length fc)), .ob ((w.heap.size + 1)) 29 (fltCells x), .ob ((w.heap.size + 1 + 1)) 27 (dvCells nilS dvNil nilS nilS)] w3) := (HS0.out).calls hb
  clear hb
  clear HS0
  generalize (w.heap.size + 1 + 1) = B1 at *
  generalize (w.heap.size + 1) = B2 at *
  clear HV
  cases hv : dvOkB d
  case false =>
    have HX : Hid (dvOkB d = false) := hv
    clear hv
    go_wp2_with (first | ((with_reducible refine wpList_build_v 27 (.agg (dvCells nilS dvNil nilS nilS).toArray) ?_ ?_); (intro W; simp only [List.map_toArray, List.map_cons, List.map_nil]; exact build_dv0 W); simp only [Act.put, List.setIfInBounds_toArray, List.set_cons_zero, List.set_cons_succ]) | ((with_reducible refine wpList_store_ob 27 (.tmp 4) B1 (dvCells nilS dvNil nilS nilS) (dvCells nilS dvNil nilS nilS) 27 ?_ ?_ ?_ ?_ ?_ ?_ ?_); (exact rfl); (exact rfl); (exact (HS2.out).get 2 rfl); (exact info_dv); (exact rfl); (exact (oneCell_dv _ _ _ _ _ _ _ _ _ _)); skip))
    have HS3 : Hid (Hp w [.ob (w.heap.size) 27 (dvCells (.slice pa d.pages.length pc) d (.slice ua d.unread.length uc) (.slice fa d.faults.length fc)), .ob B2 29 (fltCells x), .ob B1 27 (dvCells nilS dvNil nilS nilS)] (w3.setRow B1 (dvCells nilS dvNil nilS nilS).toArray)) := (HS2.out).row 2 rfl (dvCells nilS dvNil nilS nilS)
    clear HS2
    generalize (w3.setRow B1 (dvCells nilS dvNil nilS nilS).toArray) = w4 at *
    refine bodyPost_ret (results_ob_tmp Try.results26 _ _ B1 (dvCells nilS dvNil nilS nilS) 27 _ rfl (HS3.out.get 2 rfl) HUD.out rfl info_dv) rfl ?_
    exact DvPost.none (by unfold injectR; rw [if_pos HX.out]) HS3.out.old
  case true =>
    have HX : Hid (¬ dvOkB d = false) := by show ¬ _; rw [hv]; decide
    clear hv
    go_wp2_with (first | ((with_reducible refine wpList_load_ob 27 (.tmp 2) (w.heap.size) (dvCells (.slice pa d.pages.length pc) d (.slice ua d.unread.length uc) (.slice fa d.faults.length fc)) 27 HUD.out ?_ ?_ ?_ ?_ ?_); (exact rfl); (exact (HS2.out).get 0 rfl); (exact rfl); (exact info_dv); simp only [Act.put, List.setIfInBounds_toArray, List.set_cons_zero, List.set_cons_succ]) | ((with_reducible refine wpList_load_ob 29 (.tmp 3) B2 (fltCells x) 29 HUF.out ?_ ?_ ?_ ?_ ?_); (exact rfl); (exact (HS2.out).get 1 rfl); (exact rfl); (exact info_flt); simp only [Act.put, List.setIfInBounds_toArray, List.set_cons_zero, List.set_cons_succ]))
    refine (HFl.out _).mono ?_
    rintro e w4 ⟨rfl, hb⟩
    have HS3 : Hid (Hp w [.ob (w.heap.size) 27 (dvCells (.slice pa d.pages.length pc) d (.slice ua d.unread.length uc) (.slice fa d.faults.length fc)), .ob B2 29 (fltCells x), .ob B1 27 (dvCells nilS dvNil nilS nilS)] w4) := (HS2.out).calls hb
    clear hb
    clear HS2
    clear HFl
    cases hv : fltOkB d.pages.length d.writes x
    case false =>
      have HY : Hid (fltOkB d.pages.length d.writes x = false) := hv
      clear hv
      go_wp2_with (first | ((with_reducible refine wpList_build_v 27 (.agg (dvCells nilS dvNil nilS nilS).toArray) ?_ ?_); (intro W; simp only [List.map_toArray, List.map_cons, List.map_nil]; exact build_dv0 W); simp only [Act.put, List.setIfInBounds_toArray, List.set_cons_zero, List.set_cons_succ]) | ((with_reducible refine wpList_store_ob 27 (.tmp 4) B1 (dvCells nilS dvNil nilS nilS) (dvCells nilS dvNil nilS nilS) 27 ?_ ?_ ?_ ?_ ?_ ?_ ?_); (exact rfl); (exact rfl); (exact (HS3.out).get 2 rfl); (exact info_dv); (exact rfl); (exact (oneCell_dv _ _ _ _ _ _ _ _ _ _)); skip))
      have HS4 : Hid (Hp w [.ob (w.heap.size) 27 (dvCells (.slice pa d.pages.length pc) d (.slice ua d.unread.length uc) (.slice fa d.faults.length fc)), .ob B2 29 (fltCells x), .ob B1 27 (dvCells nilS dvNil nilS nilS)] (w4.setRow B1 (dvCells nilS dvNil nilS nilS).toArray)) := (HS3.out).row 2 rfl (dvCells nilS dvNil nilS nilS)
      clear HS3
      generalize (w4.setRow B1 (dvCells nilS dvNil nilS nilS).toArray) = w5 at *
      refine bodyPost_ret (results_ob_tmp Try.results26 _ _ B1 (dvCells nilS dvNil nilS nilS) 27 _ rfl (HS4.out.get 2 rfl) HUD.out rfl info_dv) rfl ?_
      exact DvPost.none (by unfold injectR; rw [if_neg HX.out, if_pos HY.out]) HS4.out.old
    case true =>
      have HY : Hid (¬ fltOkB d.pages.length d.writes x = false) := by show ¬ _; rw [hv]; decide
      clear hv
      have b4 : w4.cell? ⟨w.heap.size, 4, none⟩ = some (.slice fa d.faults.length fc) := (HS3.out).at 0 rfl 4 rfl
      by_cases hq : d.faults.length = 64
      case pos =>
        have HZ := Lib.hid hq
        have hqb : ((d.faults.length : Int) == 64) = true := by rw [hq]; rfl
        clear hq
        go_wp2_with (first | ((with_reducible refine wpList_build_v 27 (.agg (dvCells nilS dvNil nilS nilS).toArray) ?_ ?_); (intro W; simp only [List.map_toArray, List.map_cons, List.map_nil]; exact build_dv0 W); simp only [Act.put, List.setIfInBounds_toArray, List.set_cons_zero, List.set_cons_succ]) | ((with_reducible refine wpList_store_ob 27 (.tmp 4) B1 (dvCells nilS dvNil nilS nilS) (dvCells nilS dvNil nilS nilS) 27 ?_ ?_ ?_ ?_ ?_ ?_ ?_); (exact rfl); (exact rfl); (exact (HS3.out).get 2 rfl); (exact info_dv); (exact rfl); (exact (oneCell_dv _ _ _ _ _ _ _ _ _ _)); skip))
        have HS4 : Hid (Hp w [.ob (w.heap.size) 27 (dvCells (.slice pa d.pages.length pc) d (.slice ua d.unread.length uc) (.slice fa d.faults.length fc)), .ob B2 29 (fltCells x), .ob B1 27 (dvCells nilS dvNil nilS nilS)] (w4.setRow B1 (dvCells nilS dvNil nilS nilS).toArray)) := (HS3.out).row 2 rfl (dvCells nilS dvNil nilS nilS)
        clear HS3
        generalize (w4.setRow B1 (dvCells nilS dvNil nilS nilS).toArray) = w5 at *
        refine bodyPost_ret (results_ob_tmp Try.results26 _ _ B1 (dvCells nilS dvNil nilS nilS) 27 _ rfl (HS4.out.get 2 rfl) HUD.out rfl info_dv) rfl ?_
        exact DvPost.none (by unfold injectR; rw [if_neg HX.out, if_neg HY.out, if_pos HZ.out]) HS4.out.old
      case neg =>
        have HZ := Lib.hid hq
        have hqb : ((d.faults.length : Int) == 64) = false := by rw [beq_eq_false_iff_ne]; omega
        clear hq
        go_wp2_with (first | ((with_reducible refine wpList_load_ob 27 (.tmp 2) (w.heap.size) (dvCells (.slice pa d.pages.length pc) d (.slice ua d.unread.length uc) (.slice fa d.faults.length fc)) 27 HUD.out ?_ ?_ ?_ ?_ ?_); (exact rfl); (exact (HS3.out).get 0 rfl); (exact rfl); (exact info_dv); simp only [Act.put, List.setIfInBounds_toArray, List.set_cons_zero, List.set_cons_succ]))
        refine (HCp.out _ (HS3.out).old).mono ?_
        rintro e w20 ⟨v, rfl, p', u', f', rfl, hk⟩
        obtain ⟨a1, c1, rfl⟩ := own_slice (hk.own 0 rfl)
        obtain ⟨a2, c2, rfl⟩ := own_slice (hk.own 1 rfl)
        obtain ⟨a3, c3, rfl⟩ := own_slice (hk.own 2 rfl)
        have HS4 : Hid (Hp w [.ob (w.heap.size) 27 (dvCells (.slice pa d.pages.length pc) d (.slice ua d.unread.length uc) (.slice fa d.faults.length fc)), .ob B2 29 (fltCells x), .ob B1 27 (dvCells nilS dvNil nilS nilS), .sl ((.slice a1 d.pages.length c1)) 9 1 (d.pages.length) (strRow d.pages), .sl ((.slice a2 d.unread.length c2)) 3 1 (d.unread.length) (intRow d.unread), .sl ((.slice a3 d.faults.length c3)) 29 6 (d.faults.length) (fltRow d.faults)] w20) := (HS3.out).join hk (three_sl (sl_plain _ _ _ _ _) (sl_plain _ _ _ _ _) (sl_plain _ _ _ _ _))
        clear HS3
        clear HCp b4 hk
        have b4 : (((w20.alloc (.cells (dvCells nilS dvNil nilS nilS).toArray 27)).setRow (w20.heap.size) (dvCells (.slice a1 d.pages.length c1) d (.slice a2 d.unread.length c2) (.slice a3 d.faults.length c3)).toArray)).cell? ⟨(w20.heap.size), 4, none⟩ = some (.slice a3 d.faults.length c3) := (((HS4.out).put 27 (dvCells nilS dvNil nilS nilS)).row 6 rfl (dvCells (.slice a1 d.pages.length c1) d (.slice a2 d.unread.length c2) (.slice a3 d.faults.length c3))).at 6 rfl 4 rfl
        go_wp2_with (first | ((with_reducible refine wpList_alloc_ob 27 (dvCells nilS dvNil nilS nilS) ?_ ?_); (exact alloc_dv); simp only [Act.put, List.setIfInBounds_toArray, List.set_cons_zero, List.set_cons_succ]) | ((with_reducible refine wpList_store_ob 27 (.tmp 6) (w20.heap.size) (dvCells (.slice a1 d.pages.length c1) d (.slice a2 d.unread.length c2) (.slice a3 d.faults.length c3)) (dvCells nilS dvNil nilS nilS) 27 ?_ ?_ ?_ ?_ ?_ ?_ ?_); (exact rfl); (exact rfl); (exact ((HS4.out).put 27 (dvCells nilS dvNil nilS nilS)).get 6 rfl); (exact info_dv); (exact rfl); (exact (oneCell_dv _ _ _ _ _ _ _ _ _ _)); skip) | ((with_reducible refine wpList_load_ob 29 (.tmp 3) B2 (fltCells x) 29 HUF.out ?_ ?_ ?_ ?_ ?_); (exact rfl); (exact (((HS4.out).put 27 (dvCells nilS dvNil nilS nilS)).row 6 rfl (dvCells (.slice a1 d.pages.length c1) d (.slice a2 d.unread.length c2) (.slice a3 d.faults.length c3))).get 1 rfl); (exact rfl); (exact info_flt); simp only [Act.put, List.setIfInBounds_toArray, List.set_cons_zero, List.set_cons_succ]) | ((with_reducible refine wpList_build_obs 25 1 elem_flt HUX.out [fltCells x] ?_ ?_ ?_ ?_ ?_ ?_); (exact (List.forall_mem_cons.2 ⟨rfl, (fun _ h => absurd h List.not_mem_nil)⟩)); (exact Nat.succ_pos _); (simp only [List.length_cons, List.length_nil]; omega); (exact rfl); (simp only [List.map_toArray, List.map_cons, List.map_nil, List.zipIdx_cons, List.zipIdx_nil]; exact rfl); simp only [Act.put, List.setIfInBounds_toArray, List.set_cons_zero, List.set_cons_succ]) | ((with_reducible refine wpList_append_hp ((((HS4.out).put 27 (dvCells nilS dvNil nilS nilS)).row 6 rfl (dvCells (.slice a1 d.pages.length c1) d (.slice a2 d.unread.length c2) (.slice a3 d.faults.length c3))).put 29 (([fltCells x] : List (List Value)).flatMap id)) (.tmp 27) (.tmp 29) 25 5 (v := (.slice a3 d.faults.length c3)) (e := 29) (z := 6) (n := d.faults.length) (xs := fltRow d.faults) ?_ 7 (b := (((w20.alloc (.cells (dvCells nilS dvNil nilS nilS).toArray 27)).setRow (w20.heap.size) (dvCells (.slice a1 d.pages.length c1) d (.slice a2 d.unread.length c2) (.slice a3 d.faults.length c3)).toArray).heap.size)) (t' := 29) (ys := ([fltCells x] : List (List Value)).flatMap id) ?_ HUX.out elem_flt 1 1 ?_ ?_ ?_ ?_ ?_ ?_); (exact rfl); (exact rfl); (exact rfl); (exact rfl); (exact rfl); (exact (one_flt x)); (exact (by have := HLf.out; omega))))
        intro v21 w21 hs hnil
        have HS6 : Hid (Hp w [.ob (w.heap.size) 27 (dvCells (.slice pa d.pages.length pc) d (.slice ua d.unread.length uc) (.slice fa d.faults.length fc)), .ob B2 29 (fltCells x), .ob B1 27 (dvCells nilS dvNil nilS nilS), .sl ((.slice a1 d.pages.length c1)) 9 1 (d.pages.length) (strRow d.pages), .sl ((.slice a2 d.unread.length c2)) 3 1 (d.unread.length) (intRow d.unread), .sl v21 29 6 (d.faults.length + 1) ((fltRow d.faults) ++ (([fltCells x] : List (List Value)).flatMap id)), .ob (w20.heap.size) 27 (dvCells (.slice a1 d.pages.length c1) d (.slice a2 d.unread.length c2) (.slice a3 d.faults.length c3)), .ob (((w20.alloc (.cells (dvCells nilS dvNil nilS nilS).toArray 27)).setRow (w20.heap.size) (dvCells (.slice a1 d.pages.length c1) d (.slice a2 d.unread.length c2) (.slice a3 d.faults.length c3)).toArray).heap.size) 29 (([fltCells x] : List (List Value)).flatMap id)] w21) := hs
        clear hs
        clear HS4
        generalize ((w20.alloc (.cells (dvCells nilS dvNil nilS nilS).toArray 27)).setRow (w20.heap.size) (dvCells (.slice a1 d.pages.length c1) d (.slice a2 d.unread.length c2) (.slice a3 d.faults.length c3)).toArray).heap.size = B3 at *
        generalize w20.heap.size = B4 at *
        obtain ⟨a4, c4, rfl⟩ := own_slice (HS6.out.own 5 rfl)
        have b4 : w21.cell? ⟨B4, 4, none⟩ = some (.slice a3 d.faults.length c3) := HS6.out.at 6 rfl 4 rfl
        have f4 : w21.frozen? ⟨B4, 4, none⟩ = false := HS6.out.frozen 6 rfl 4
        have HS40 : Hid (Hp w [.ob (w.heap.size) 27 (dvCells (.slice pa d.pages.length pc) d (.slice ua d.unread.length uc) (.slice fa d.faults.length fc)), .ob B2 29 (fltCells x), .ob B1 27 (dvCells nilS dvNil nilS nilS), .sl ((.slice a1 d.pages.length c1)) 9 1 (d.pages.length) (strRow d.pages), .sl ((.slice a2 d.unread.length c2)) 3 1 (d.unread.length) (intRow d.unread), .sl ((.slice a4 (d.faults.length + 1) c4)) 29 6 (d.faults.length + 1) ((fltRow d.faults) ++ (([fltCells x] : List (List Value)).flatMap id)), .ob B4 27 (dvCells (.slice a1 d.pages.length c1) d (.slice a2 d.unread.length c2) (.slice a4 (d.faults.length + 1) c4)), .ob B3 29 (([fltCells x] : List (List Value)).flatMap id)] (w21.setCell ⟨B4, 4, none⟩ (.slice a4 (d.faults.length + 1) c4))) := (HS6.out).set 6 rfl 4 (.slice a4 (d.faults.length + 1) c4)
        go_wp2_with (first | ((with_reducible refine wpList_load_ob 27 (.tmp 6) B4 (dvCells (.slice a1 d.pages.length c1) d (.slice a2 d.unread.length c2) (.slice a4 (d.faults.length + 1) c4)) 27 HUD.out ?_ ?_ ?_ ?_ ?_); (exact rfl); (exact (HS40.out).get 6 rfl); (exact rfl); (exact info_dv); simp only [Act.put, List.setIfInBounds_toArray, List.set_cons_zero, List.set_cons_succ]) | ((with_reducible refine wpList_store_ob 27 (.tmp 4) B1 (dvCells (.slice a1 d.pages.length c1) d (.slice a2 d.unread.length c2) (.slice a4 (d.faults.length + 1) c4)) (dvCells nilS dvNil nilS nilS) 27 ?_ ?_ ?_ ?_ ?_ ?_ ?_); (exact rfl); (exact rfl); (exact (HS40.out).get 2 rfl); (exact info_dv); (exact rfl); (exact (oneCell_dv _ _ _ _ _ _ _ _ _ _)); skip))
        have HS7 : Hid (Hp w [.ob (w.heap.size) 27 (dvCells (.slice pa d.pages.length pc) d (.slice ua d.unread.length uc) (.slice fa d.faults.length fc)), .ob B2 29 (fltCells x), .ob B1 27 (dvCells (.slice a1 d.pages.length c1) d (.slice a2 d.unread.length c2) (.slice a4 (d.faults.length + 1) c4)), .sl ((.slice a1 d.pages.length c1)) 9 1 (d.pages.length) (strRow d.pages), .sl ((.slice a2 d.unread.length c2)) 3 1 (d.unread.length) (intRow d.unread), .sl ((.slice a4 (d.faults.length + 1) c4)) 29 6 (d.faults.length + 1) ((fltRow d.faults) ++ (([fltCells x] : List (List Value)).flatMap id)), .ob B4 27 (dvCells (.slice a1 d.pages.length c1) d (.slice a2 d.unread.length c2) (.slice a4 (d.faults.length + 1) c4)), .ob B3 29 (([fltCells x] : List (List Value)).flatMap id)] ((w21.setCell ⟨B4, 4, none⟩ (.slice a4 (d.faults.length + 1) c4)).setRow B1 (dvCells (.slice a1 d.pages.length c1) d (.slice a2 d.unread.length c2) (.slice a4 (d.faults.length + 1) c4)).toArray)) := (HS40.out).row 2 rfl (dvCells (.slice a1 d.pages.length c1) d (.slice a2 d.unread.length c2) (.slice a4 (d.faults.length + 1) c4))
        clear HS6
        generalize ((w21.setCell ⟨B4, 4, none⟩ (.slice a4 (d.faults.length + 1) c4)).setRow B1 (dvCells (.slice a1 d.pages.length c1) d (.slice a2 d.unread.length c2) (.slice a4 (d.faults.length + 1) c4)).toArray) = w22 at *
        refine bodyPost_ret (results_ob_tmp Try.results26 _ _ B1 (dvCells (.slice a1 d.pages.length c1) d (.slice a2 d.unread.length c2) (.slice a4 (d.faults.length + 1) c4)) 27 _ rfl (HS7.out.get 2 rfl) HUD.out rfl info_dv) rfl ?_
        have hfo : _ := HS7.out.own 5 rfl
        obtain ⟨R', hrd, hin, hnew⟩ := own_dv (d := ⟨d.pages, d.writes, d.unread, d.dead, d.faults ++ [x]⟩) (HS7.out.own 3 rfl) (HS7.out.own 4 rfl) (by rw [List.length_append, fltRow_snoc]; exact hfo)
        exact ⟨_, _, _, R', by unfold injectR; rw [if_neg HX.out, if_neg HY.out, if_neg HZ.out]; rfl, by unfold injectR; rw [if_neg HX.out, if_neg HY.out, if_neg HZ.out]; exact hrd, hin, fun r hr => .inl (hnew r hr), HS7.out.old⟩
end Go.Proofs.Ythcjkbhkidijoaa
/- the program's Inject -/
namespace Go.Proofs.Ythcjkbhkidijoaa
open Go.RowKit
set_option maxRecDepth 20000
set_option linter.unusedSimpArgs false
set_option linter.unusedVariables false

set_option maxHeartbeats 8000000 in
theorem inject_any {p u f : Value} {d : Dv} {R : List Rng} (x : Flt) (w : World) (h : DvRd p u f d R) (hR : RdIn w R) (hg : GoodDv d) (hx : GoodFlt x) (hp : d.pages.length ≤ 1000) (hf : d.faults.length ≤ 1000) :
    Calls Try.prog 25 #[.agg (dvCells p d u f).toArray, .agg (fltCells x).toArray] w (DvPost w R (injectR d x)) := by
  have HV : Hid (∀ W, Below w.heap.size w W → Calls Try.prog 22 #[.agg (dvCells p d u f).toArray] W fun e w' => e = .returned (.bool (dvOkB d)) ∧ Below W.heap.size W w') := fun W hb => valid_any W h (hR.below hb) hg
  have HCp : Hid (∀ W, Below w.heap.size w W → Calls Try.prog 39 #[.agg (dvCells p d u f).toArray] W fun e w' => ∃ v, e = .returned v ∧ OwnDv W w' v d) := fun W hb => copied_any W h (hR.below hb) hp hg.unread hf
  have HFl : Hid (∀ W, Below w.heap.size w W → Calls Try.prog 54 #[.agg (dvCells p d u f).toArray, .agg (fltCells x).toArray] W fun e w' => e = .returned (.bool (fltOkB d.pages.length d.writes x)) ∧ Below W.heap.size W w') := fun W hb => validFault_any x W h (hR.below hb) hx
  have HLf := Lib.hid hf
  obtain ⟨fs, hud⟩ := under_dv
  have HUD := Lib.hid hud
  obtain ⟨fs2, huf⟩ := under_flt
  have HUF := Lib.hid huf
  clear hud huf
  have HUX : Hid (Try.prog.underlying 25 = some (.slice 29)) := Try.underlying25
  obtain ⟨pa, pc, rfl, hp1, hp3, hP2⟩ := h.pages.open hR
  obtain ⟨ua, uc, rfl, hu1, hu3, hU2⟩ := h.unread.open hR
  obtain ⟨fa, fc, rfl, hf1, hf3, hF2⟩ := h.faults.open hR
  clear h hR hg hP2 hU2 hF2 hx hf hp
  have h1 := (((Hp.start w).put 27 (dvCells (.slice pa d.pages.length pc) d (.slice ua d.unread.length uc) (.slice fa d.faults.length fc))).put 29 (fltCells x)).put 27 (dvCells nilS dvNil nilS nilS)
  simp only [World.size_alloc, List.nil_append, List.cons_append] at h1
  have HS0 : Hid (Hp w [.ob w.heap.size 27 (dvCells (.slice pa d.pages.length pc) d (.slice ua d.unread.length uc) (.slice fa d.faults.length fc)), .ob (w.heap.size + 1) 29 (fltCells x), .ob (w.heap.size + 1 + 1) 27 (dvCells nilS dvNil nilS nilS)] (((w.alloc (.cells (dvCells (.slice pa d.pages.length pc) d (.slice ua d.unread.length uc) (.slice fa d.faults.length fc)).toArray 27)).alloc (.cells (fltCells x).toArray 29)).alloc (.cells #[.slice none 0 0, .int .i64 0, .slice none 0 0, .bool false, .slice none 0 0] 27))) := h1
  clear h1 hp1 hp3 hu1 hu3 hf1 hf3
  go_enter Try.func25, Try.ntmps25
  go_wp2_with (first | ((with_reducible refine wpList_load_ob 27 (.tmp 2) (w.heap.size) (dvCells (.slice pa d.pages.length pc) d (.slice ua d.unread.length uc) (.slice fa d.faults.length fc)) 27 HUD.out ?_ ?_ ?_ ?_ ?_); (exact rfl); (exact (HS0.out).get 0 rfl); (exact rfl); (exact info_dv); simp only [Act.put, List.setIfInBounds_toArray, List.set_cons_zero, List.set_cons_succ]))
  refine (HV.out _ (HS0.out).old).mono ?_
  rintro e w3 ⟨rfl, hb⟩
  have HS2 : Hid (Hp w [.ob (w.heap.size) 27 (dvCells (.slice pa d.pages.length pc) d (.slice ua d.unread.length uc) (.slice fa d.faults.length fc)), .ob ((w.heap.size + 1)) 29 (fltCells x), .ob ((w.heap.size + 1 + 1)) 27 (dvCells nilS dvNil nilS nilS)] w3) := (HS0.out).calls hb
  clear hb
  clear HS0
  generalize (w.heap.size + 1 + 1) = B1 at *
  generalize (w.heap.size + 1) = B2 at *
  clear HV
  cases hv : dvOkB d
  case false =>
    have HX : Hid (dvOkB d = false) := hv
    clear hv
    go_wp2_with (first | ((with_reducible refine wpList_build_v 27 (.agg (dvCells nilS dvNil nilS nilS).toArray) ?_ ?_); (intro W; simp only [List.map_toArray, List.map_cons, List.map_nil]; exact build_dv0 W); simp only [Act.put, List.setIfInBounds_toArray, List.set_cons_zero, List.set_cons_succ]) | ((with_reducible refine wpList_store_ob 27 (.tmp 4) B1 (dvCells nilS dvNil nilS nilS) (dvCells nilS dvNil nilS nilS) 27 ?_ ?_ ?_ ?_ ?_ ?_ ?_); (exact rfl); (exact rfl); (exact (HS2.out).get 2 rfl); (exact info_dv); (exact rfl); (exact (oneCell_dv _ _ _ _ _ _ _ _ _ _)); skip))
    have HS3 : Hid (Hp w [.ob (w.heap.size) 27 (dvCells (.slice pa d.pages.length pc) d (.slice ua d.unread.length uc) (.slice fa d.faults.length fc)), .ob B2 29 (fltCells x), .ob B1 27 (dvCells nilS dvNil nilS nilS)] (w3.setRow B1 (dvCells nilS dvNil nilS nilS).toArray)) := (HS2.out).row 2 rfl (dvCells nilS dvNil nilS nilS)
    clear HS2
    generalize (w3.setRow B1 (dvCells nilS dvNil nilS nilS).toArray) = w4 at *
    refine bodyPost_ret (results_ob_tmp Try.results25 _ _ B1 (dvCells nilS dvNil nilS nilS) 27 _ rfl (HS3.out.get 2 rfl) HUD.out rfl info_dv) rfl ?_
    exact DvPost.none (by unfold injectR; rw [if_pos HX.out]) HS3.out.old
  case true =>
    have HX : Hid (¬ dvOkB d = false) := by show ¬ _; rw [hv]; decide
    clear hv
    go_wp2_with (first | ((with_reducible refine wpList_load_ob 27 (.tmp 2) (w.heap.size) (dvCells (.slice pa d.pages.length pc) d (.slice ua d.unread.length uc) (.slice fa d.faults.length fc)) 27 HUD.out ?_ ?_ ?_ ?_ ?_); (exact rfl); (exact (HS2.out).get 0 rfl); (exact rfl); (exact info_dv); simp only [Act.put, List.setIfInBounds_toArray, List.set_cons_zero, List.set_cons_succ]) | ((with_reducible refine wpList_load_ob 29 (.tmp 3) B2 (fltCells x) 29 HUF.out ?_ ?_ ?_ ?_ ?_); (exact rfl); (exact (HS2.out).get 1 rfl); (exact rfl); (exact info_flt); simp only [Act.put, List.setIfInBounds_toArray, List.set_cons_zero, List.set_cons_succ]))
    refine (HFl.out _ (HS2.out).old).mono ?_
    rintro e w4 ⟨rfl, hb⟩
    have HS3 : Hid (Hp w [.ob (w.heap.size) 27 (dvCells (.slice pa d.pages.length pc) d (.slice ua d.unread.length uc) (.slice fa d.faults.length fc)), .ob B2 29 (fltCells x), .ob B1 27 (dvCells nilS dvNil nilS nilS)] w4) := (HS2.out).calls hb
    clear hb
    clear HS2
    clear HFl
    cases hv : fltOkB d.pages.length d.writes x
    case false =>
      have HY : Hid (fltOkB d.pages.length d.writes x = false) := hv
      clear hv
      go_wp2_with (first | ((with_reducible refine wpList_build_v 27 (.agg (dvCells nilS dvNil nilS nilS).toArray) ?_ ?_); (intro W; simp only [List.map_toArray, List.map_cons, List.map_nil]; exact build_dv0 W); simp only [Act.put, List.setIfInBounds_toArray, List.set_cons_zero, List.set_cons_succ]) | ((with_reducible refine wpList_store_ob 27 (.tmp 4) B1 (dvCells nilS dvNil nilS nilS) (dvCells nilS dvNil nilS nilS) 27 ?_ ?_ ?_ ?_ ?_ ?_ ?_); (exact rfl); (exact rfl); (exact (HS3.out).get 2 rfl); (exact info_dv); (exact rfl); (exact (oneCell_dv _ _ _ _ _ _ _ _ _ _)); skip))
      have HS4 : Hid (Hp w [.ob (w.heap.size) 27 (dvCells (.slice pa d.pages.length pc) d (.slice ua d.unread.length uc) (.slice fa d.faults.length fc)), .ob B2 29 (fltCells x), .ob B1 27 (dvCells nilS dvNil nilS nilS)] (w4.setRow B1 (dvCells nilS dvNil nilS nilS).toArray)) := (HS3.out).row 2 rfl (dvCells nilS dvNil nilS nilS)
      clear HS3
      generalize (w4.setRow B1 (dvCells nilS dvNil nilS nilS).toArray) = w5 at *
      refine bodyPost_ret (results_ob_tmp Try.results25 _ _ B1 (dvCells nilS dvNil nilS nilS) 27 _ rfl (HS4.out.get 2 rfl) HUD.out rfl info_dv) rfl ?_
      exact DvPost.none (by unfold injectR; rw [if_neg HX.out, if_pos HY.out]) HS4.out.old
    case true =>
      have HY : Hid (¬ fltOkB d.pages.length d.writes x = false) := by show ¬ _; rw [hv]; decide
      clear hv
      have b4 : w4.cell? ⟨w.heap.size, 4, none⟩ = some (.slice fa d.faults.length fc) := (HS3.out).at 0 rfl 4 rfl
      by_cases hq : d.faults.length = 64
      case pos =>
        have HZ := Lib.hid hq
        have hqb : ((d.faults.length : Int) == 64) = true := by rw [hq]; rfl
        clear hq
        go_wp2_with (first | ((with_reducible refine wpList_build_v 27 (.agg (dvCells nilS dvNil nilS nilS).toArray) ?_ ?_); (intro W; simp only [List.map_toArray, List.map_cons, List.map_nil]; exact build_dv0 W); simp only [Act.put, List.setIfInBounds_toArray, List.set_cons_zero, List.set_cons_succ]) | ((with_reducible refine wpList_store_ob 27 (.tmp 4) B1 (dvCells nilS dvNil nilS nilS) (dvCells nilS dvNil nilS nilS) 27 ?_ ?_ ?_ ?_ ?_ ?_ ?_); (exact rfl); (exact rfl); (exact (HS3.out).get 2 rfl); (exact info_dv); (exact rfl); (exact (oneCell_dv _ _ _ _ _ _ _ _ _ _)); skip))
        have HS4 : Hid (Hp w [.ob (w.heap.size) 27 (dvCells (.slice pa d.pages.length pc) d (.slice ua d.unread.length uc) (.slice fa d.faults.length fc)), .ob B2 29 (fltCells x), .ob B1 27 (dvCells nilS dvNil nilS nilS)] (w4.setRow B1 (dvCells nilS dvNil nilS nilS).toArray)) := (HS3.out).row 2 rfl (dvCells nilS dvNil nilS nilS)
        clear HS3
        generalize (w4.setRow B1 (dvCells nilS dvNil nilS nilS).toArray) = w5 at *
        refine bodyPost_ret (results_ob_tmp Try.results25 _ _ B1 (dvCells nilS dvNil nilS nilS) 27 _ rfl (HS4.out.get 2 rfl) HUD.out rfl info_dv) rfl ?_
        exact DvPost.none (by unfold injectR; rw [if_neg HX.out, if_neg HY.out, if_pos HZ.out]) HS4.out.old
      case neg =>
        have HZ := Lib.hid hq
        have hqb : ((d.faults.length : Int) == 64) = false := by rw [beq_eq_false_iff_ne]; omega
        clear hq
        go_wp2_with (first | ((with_reducible refine wpList_load_ob 27 (.tmp 2) (w.heap.size) (dvCells (.slice pa d.pages.length pc) d (.slice ua d.unread.length uc) (.slice fa d.faults.length fc)) 27 HUD.out ?_ ?_ ?_ ?_ ?_); (exact rfl); (exact (HS3.out).get 0 rfl); (exact rfl); (exact info_dv); simp only [Act.put, List.setIfInBounds_toArray, List.set_cons_zero, List.set_cons_succ]))
        refine (HCp.out _ (HS3.out).old).mono ?_
        rintro e w20 ⟨v, rfl, p', u', f', rfl, hk⟩
        obtain ⟨a1, c1, rfl⟩ := own_slice (hk.own 0 rfl)
        obtain ⟨a2, c2, rfl⟩ := own_slice (hk.own 1 rfl)
        obtain ⟨a3, c3, rfl⟩ := own_slice (hk.own 2 rfl)
        have HS4 : Hid (Hp w [.ob (w.heap.size) 27 (dvCells (.slice pa d.pages.length pc) d (.slice ua d.unread.length uc) (.slice fa d.faults.length fc)), .ob B2 29 (fltCells x), .ob B1 27 (dvCells nilS dvNil nilS nilS), .sl ((.slice a1 d.pages.length c1)) 9 1 (d.pages.length) (strRow d.pages), .sl ((.slice a2 d.unread.length c2)) 3 1 (d.unread.length) (intRow d.unread), .sl ((.slice a3 d.faults.length c3)) 29 6 (d.faults.length) (fltRow d.faults)] w20) := (HS3.out).join hk (three_sl (sl_plain _ _ _ _ _) (sl_plain _ _ _ _ _) (sl_plain _ _ _ _ _))
        clear HS3
        clear HCp b4 hk
        have b4 : ((w20.setRow (w.heap.size) (dvCells (.slice a1 d.pages.length c1) d (.slice a2 d.unread.length c2) (.slice a3 d.faults.length c3)).toArray)).cell? ⟨(w.heap.size), 4, none⟩ = some (.slice a3 d.faults.length c3) := ((HS4.out).row 0 rfl (dvCells (.slice a1 d.pages.length c1) d (.slice a2 d.unread.length c2) (.slice a3 d.faults.length c3))).at 0 rfl 4 rfl
        go_wp2_with (first | ((with_reducible refine wpList_store_ob 27 (.tmp 2) (w.heap.size) (dvCells (.slice a1 d.pages.length c1) d (.slice a2 d.unread.length c2) (.slice a3 d.faults.length c3)) (dvCells (.slice pa d.pages.length pc) d (.slice ua d.unread.length uc) (.slice fa d.faults.length fc)) 27 ?_ ?_ ?_ ?_ ?_ ?_ ?_); (exact rfl); (exact rfl); (exact (HS4.out).get 0 rfl); (exact info_dv); (exact rfl); (exact (oneCell_dv _ _ _ _ _ _ _ _ _ _)); skip) | ((with_reducible refine wpList_load_ob 29 (.tmp 3) B2 (fltCells x) 29 HUF.out ?_ ?_ ?_ ?_ ?_); (exact rfl); (exact ((HS4.out).row 0 rfl (dvCells (.slice a1 d.pages.length c1) d (.slice a2 d.unread.length c2) (.slice a3 d.faults.length c3))).get 1 rfl); (exact rfl); (exact info_flt); simp only [Act.put, List.setIfInBounds_toArray, List.set_cons_zero, List.set_cons_succ]) | ((with_reducible refine wpList_build_obs 25 1 elem_flt HUX.out [fltCells x] ?_ ?_ ?_ ?_ ?_ ?_); (exact (List.forall_mem_cons.2 ⟨rfl, (fun _ h => absurd h List.not_mem_nil)⟩)); (exact Nat.succ_pos _); (simp only [List.length_cons, List.length_nil]; omega); (exact rfl); (simp only [List.map_toArray, List.map_cons, List.map_nil, List.zipIdx_cons, List.zipIdx_nil]; exact rfl); simp only [Act.put, List.setIfInBounds_toArray, List.set_cons_zero, List.set_cons_succ]) | ((with_reducible refine wpList_append_hp (((HS4.out).row 0 rfl (dvCells (.slice a1 d.pages.length c1) d (.slice a2 d.unread.length c2) (.slice a3 d.faults.length c3))).put 29 (([fltCells x] : List (List Value)).flatMap id)) (.tmp 26) (.tmp 28) 25 5 (v := (.slice a3 d.faults.length c3)) (e := 29) (z := 6) (n := d.faults.length) (xs := fltRow d.faults) ?_ 6 (b := ((w20.setRow (w.heap.size) (dvCells (.slice a1 d.pages.length c1) d (.slice a2 d.unread.length c2) (.slice a3 d.faults.length c3)).toArray).heap.size)) (t' := 29) (ys := ([fltCells x] : List (List Value)).flatMap id) ?_ HUX.out elem_flt 1 1 ?_ ?_ ?_ ?_ ?_ ?_); (exact rfl); (exact rfl); (exact rfl); (exact rfl); (exact rfl); (exact (one_flt x)); (exact (by have := HLf.out; omega))))
        intro v21 w21 hs hnil
        have HS6 : Hid (Hp w [.ob (w.heap.size) 27 (dvCells (.slice a1 d.pages.length c1) d (.slice a2 d.unread.length c2) (.slice a3 d.faults.length c3)), .ob B2 29 (fltCells x), .ob B1 27 (dvCells nilS dvNil nilS nilS), .sl ((.slice a1 d.pages.length c1)) 9 1 (d.pages.length) (strRow d.pages), .sl ((.slice a2 d.unread.length c2)) 3 1 (d.unread.length) (intRow d.unread), .sl v21 29 6 (d.faults.length + 1) ((fltRow d.faults) ++ (([fltCells x] : List (List Value)).flatMap id)), .ob ((w20.setRow (w.heap.size) (dvCells (.slice a1 d.pages.length c1) d (.slice a2 d.unread.length c2) (.slice a3 d.faults.length c3)).toArray).heap.size) 29 (([fltCells x] : List (List Value)).flatMap id)] w21) := hs
        clear hs
        clear HS4
        generalize (w20.setRow (w.heap.size) (dvCells (.slice a1 d.pages.length c1) d (.slice a2 d.unread.length c2) (.slice a3 d.faults.length c3)).toArray).heap.size = B3 at *
        obtain ⟨a4, c4, rfl⟩ := own_slice (HS6.out.own 5 rfl)
        have b4 : w21.cell? ⟨(w.heap.size), 4, none⟩ = some (.slice a3 d.faults.length c3) := HS6.out.at 0 rfl 4 rfl
        have f4 : w21.frozen? ⟨(w.heap.size), 4, none⟩ = false := HS6.out.frozen 0 rfl 4
        have HS40 : Hid (Hp w [.ob (w.heap.size) 27 (dvCells (.slice a1 d.pages.length c1) d (.slice a2 d.unread.length c2) (.slice a4 (d.faults.length + 1) c4)), .ob B2 29 (fltCells x), .ob B1 27 (dvCells nilS dvNil nilS nilS), .sl ((.slice a1 d.pages.length c1)) 9 1 (d.pages.length) (strRow d.pages), .sl ((.slice a2 d.unread.length c2)) 3 1 (d.unread.length) (intRow d.unread), .sl ((.slice a4 (d.faults.length + 1) c4)) 29 6 (d.faults.length + 1) ((fltRow d.faults) ++ (([fltCells x] : List (List Value)).flatMap id)), .ob B3 29 (([fltCells x] : List (List Value)).flatMap id)] (w21.setCell ⟨(w.heap.size), 4, none⟩ (.slice a4 (d.faults.length + 1) c4))) := (HS6.out).set 0 rfl 4 (.slice a4 (d.faults.length + 1) c4)
        go_wp2_with (first | ((with_reducible refine wpList_load_ob 27 (.tmp 2) (w.heap.size) (dvCells (.slice a1 d.pages.length c1) d (.slice a2 d.unread.length c2) (.slice a4 (d.faults.length + 1) c4)) 27 HUD.out ?_ ?_ ?_ ?_ ?_); (exact rfl); (exact (HS40.out).get 0 rfl); (exact rfl); (exact info_dv); simp only [Act.put, List.setIfInBounds_toArray, List.set_cons_zero, List.set_cons_succ]) | ((with_reducible refine wpList_store_ob 27 (.tmp 4) B1 (dvCells (.slice a1 d.pages.length c1) d (.slice a2 d.unread.length c2) (.slice a4 (d.faults.length + 1) c4)) (dvCells nilS dvNil nilS nilS) 27 ?_ ?_ ?_ ?_ ?_ ?_ ?_); (exact rfl); (exact rfl); (exact (HS40.out).get 2 rfl); (exact info_dv); (exact rfl); (exact (oneCell_dv _ _ _ _ _ _ _ _ _ _)); skip))
        have HS7 : Hid (Hp w [.ob (w.heap.size) 27 (dvCells (.slice a1 d.pages.length c1) d (.slice a2 d.unread.length c2) (.slice a4 (d.faults.length + 1) c4)), .ob B2 29 (fltCells x), .ob B1 27 (dvCells (.slice a1 d.pages.length c1) d (.slice a2 d.unread.length c2) (.slice a4 (d.faults.length + 1) c4)), .sl ((.slice a1 d.pages.length c1)) 9 1 (d.pages.length) (strRow d.pages), .sl ((.slice a2 d.unread.length c2)) 3 1 (d.unread.length) (intRow d.unread), .sl ((.slice a4 (d.faults.length + 1) c4)) 29 6 (d.faults.length + 1) ((fltRow d.faults) ++ (([fltCells x] : List (List Value)).flatMap id)), .ob B3 29 (([fltCells x] : List (List Value)).flatMap id)] ((w21.setCell ⟨(w.heap.size), 4, none⟩ (.slice a4 (d.faults.length + 1) c4)).setRow B1 (dvCells (.slice a1 d.pages.length c1) d (.slice a2 d.unread.length c2) (.slice a4 (d.faults.length + 1) c4)).toArray)) := (HS40.out).row 2 rfl (dvCells (.slice a1 d.pages.length c1) d (.slice a2 d.unread.length c2) (.slice a4 (d.faults.length + 1) c4))
        clear HS6
        generalize ((w21.setCell ⟨(w.heap.size), 4, none⟩ (.slice a4 (d.faults.length + 1) c4)).setRow B1 (dvCells (.slice a1 d.pages.length c1) d (.slice a2 d.unread.length c2) (.slice a4 (d.faults.length + 1) c4)).toArray) = w22 at *
        refine bodyPost_ret (results_ob_tmp Try.results25 _ _ B1 (dvCells (.slice a1 d.pages.length c1) d (.slice a2 d.unread.length c2) (.slice a4 (d.faults.length + 1) c4)) 27 _ rfl (HS7.out.get 2 rfl) HUD.out rfl info_dv) rfl ?_
        have hfo : _ := HS7.out.own 5 rfl
        obtain ⟨R', hrd, hin, hnew⟩ := own_dv (d := ⟨d.pages, d.writes, d.unread, d.dead, d.faults ++ [x]⟩) (HS7.out.own 3 rfl) (HS7.out.own 4 rfl) (by rw [List.length_append, fltRow_snoc]; exact hfo)
        exact ⟨_, _, _, R', by unfold injectR; rw [if_neg HX.out, if_neg HY.out, if_neg HZ.out]; rfl, by unfold injectR; rw [if_neg HX.out, if_neg HY.out, if_neg HZ.out]; exact hrd, hin, fun r hr => .inl (hnew r hr), HS7.out.old⟩
end Go.Proofs.Ythcjkbhkidijoaa
/- what the program's Write is made of -/
namespace Go.Proofs.Ythcjkbhkidijoaa
open Go.RowKit
set_option maxRecDepth 20000
set_option linter.unusedSimpArgs false
set_option linter.unusedVariables false

/-- what Write keeps of a device -/
structure DvInv (n m : Nat) (d : Dv) : Prop where
  num : d.pages.length = n
  all : ∀ s ∈ d.pages, s.size = 256
  asc : d.unread.Pairwise (· < ·)
  few : d.unread.length ≤ m
theorem without_asc {l : List Int} (t : Int) (h : l.Pairwise (· < ·)) : (withoutR l t).Pairwise (· < ·) := h.sublist (List.filter_sublist)
theorem without_le (l : List Int) (t : Int) : (withoutR l t).length ≤ l.length := List.length_filter_le _ _
theorem with_mem {t : Int} : ∀ {l : List Int} {x : Int}, x ∈ withR t l → x = t ∨ x ∈ l
  | [], x, h => .inl (by simpa [withR] using h)
  | y :: l, x, h => by
    have h' : x ∈ (if t ≤ y then t :: withoutR (y :: l) t else y :: withR t l) := h
    split at h'
    · rcases List.mem_cons.1 h' with h1 | h1
      · exact .inl h1
      · exact .inr ((List.mem_filter.1 h1).1)
    · rcases List.mem_cons.1 h' with h1 | h1
      · exact .inr (by rw [h1]; exact List.mem_cons_self ..)
      · rcases with_mem h1 with h2 | h2
        · exact .inl h2
        · exact .inr (List.mem_cons_of_mem _ h2)
theorem with_len (t : Int) : ∀ l : List Int, (withR t l).length ≤ l.length + 1
  | [] => Nat.le_refl _
  | y :: l => by
    show (if t ≤ y then t :: withoutR (y :: l) t else y :: withR t l).length ≤ _
    split
    · have := without_le (y :: l) t
      simp only [List.length_cons] at this ⊢
      omega
    · have := with_len t l
      simp only [List.length_cons]
      omega
theorem with_asc (t : Int) : ∀ {l : List Int}, l.Pairwise (· < ·) → (withR t l).Pairwise (· < ·)
  | [], _ => List.pairwise_singleton _ _
  | y :: l, h => by
    show (if t ≤ y then t :: withoutR (y :: l) t else y :: withR t l).Pairwise _
    split
    · rename_i hty
      rw [List.pairwise_cons]
      refine ⟨fun x hx => ?_, without_asc t h⟩
      have h1 := List.mem_filter.1 hx
      have h2 : x ≠ t := by simpa using h1.2
      rw [List.pairwise_cons] at h
      rcases List.mem_cons.1 h1.1 with h3 | h3
      · omega
      · have := h.1 x h3; omega
    · rename_i hty
      rw [List.pairwise_cons] at h ⊢
      refine ⟨fun x hx => ?_, with_asc t h.2⟩
      rcases with_mem hx with h1 | h1
      · omega
      · exact h.1 x h1
theorem rot_size (y : ByteArray) (j : Nat) (m : Int) : (rotR y j m).size = y.size := by
  show (y.data.modify j _).size = y.data.size
  simp
theorem set_all {l : List ByteArray} {k : Nat} {y : ByteArray} (h : ∀ s ∈ l, s.size = 256) (hy : y.size = 256) : ∀ s ∈ l.set k y, s.size = 256 := fun s hs => by
  rcases List.mem_or_eq_of_mem_set hs with h1 | h1
  · exact h s h1
  · rw [h1]; exact hy
theorem place_inv {n m : Nat} {d : Dv} (h : DvInv n m d) (page : Int) (hp : 0 ≤ page ∧ page < (n : Int)) (s : ByteArray) (hs : s.size = 256) (k : Nat) (hk : k ≤ 256) : DvInv n m (placeR d page s k) := by
  have hpl : page.toNat < d.pages.length := by rw [h.num]; omega
  refine ⟨by unfold placeR; simp only [List.length_set]; exact h.num, set_all h.all ?_, without_asc _ h.asc, Nat.le_trans (without_le _ _) h.few⟩
  have h1 : (d.pages.getD page.toNat ⟨#[]⟩).size = 256 := by rw [List.getD_eq_getElem?_getD, List.getElem?_eq_getElem hpl]; exact h.all _ (List.getElem_mem hpl)
  rw [ByteArray.size_append, ByteArray.size_extract, ByteArray.size_extract, h1, hs]
  omega
theorem happen_inv {n m : Nat} {d : Dv} (h : DvInv n m d) (x : Flt) : DvInv n (m + 1) (happenR d x) := by
  have hw : DvInv n (m + 1) d := ⟨h.num, h.all, h.asc, Nat.le_succ_of_le h.few⟩
  unfold happenR
  split
  · refine ⟨by simp only [List.length_modify]; exact h.num, fun s hs => ?_, hw.asc, hw.few⟩
    obtain ⟨i, hi, rfl⟩ := List.getElem_of_mem hs
    simp only [List.length_modify] at hi
    simp only [List.getElem_modify]
    split
    · rw [rot_size]; exact h.all _ (List.getElem_mem hi)
    · exact h.all _ (List.getElem_mem hi)
  · split
    · exact ⟨h.num, h.all, with_asc _ h.asc, Nat.le_trans (with_len _ _) (Nat.succ_le_succ h.few)⟩
    · split
      · exact ⟨hw.num, hw.all, hw.asc, hw.few⟩
      · exact hw
theorem land_inv {n m : Nat} {d : Dv} (h : DvInv n m d) (page : Int) (hp : 0 ≤ page ∧ page < (n : Int)) (s : ByteArray) (hs : s.size = 256) : ∀ l : List Flt, (∀ x ∈ l, (0 ≤ x.target ∧ x.target < (n : Int)) ∧ (0 ≤ x.byte ∧ x.byte < 256)) → DvInv n m (landR d page s l)
  | [], _ => place_inv h page hp s hs 256 (Nat.le_refl _)
  | x :: l, hl => by
    have hx := hl x (List.mem_cons_self ..)
    unfold landR
    split
    · exact h
    · split
      · exact place_inv h _ hx.1 s hs 256 (Nat.le_refl _)
      · split
        · exact place_inv h page hp s hs _ (by omega)
        · exact land_inv h page hp s hs l (fun y hy => hl y (List.mem_cons_of_mem _ hy))
theorem fold_inv {n : Nat} : ∀ (l : List Flt) {m : Nat} {d : Dv}, DvInv n m d → DvInv n (m + l.length) (l.foldl happenR d)
  | [], _, _, h => h
  | x :: l, m, d, h => by
    have := fold_inv l (happen_inv h x)
    rw [List.length_cons, show m + (l.length + 1) = m + 1 + l.length from by omega]
    exact this
theorem dput_place {d : Dv} (s : ByteArray) (k n : Nat) (hs : s.size = 256) (hn : n ≤ 256) : dputR d k (s.extract 0 n) = placeR d k s n := by
  unfold dputR placeR
  rw [ByteArray.size_extract, hs, Int.toNat_natCast, show min n 256 - 0 = n from by omega]
theorem extract_all (s : ByteArray) (hs : s.size = 256) : s.extract 0 256 = s := by
  have := ByteArray.extract_zero_size (b := s)
  rw [hs] at this
  exact this
/-- carryOut at what fate says -/
theorem carry_any {w0 W : World} {M : List Th} {b : Nat} {p u f : Value} {d : Dv} {n m : Nat} (s : ByteArray) (k : Nat) (l : List Flt) (h : Hp w0 (DvTh b p u f d M) W) (hi : DvInv n m d) (hn : n ≤ 1000) (hm : m ≤ 1000) (hk : k < n) (hs : s.size = 256) (hl : ∀ x ∈ l, (0 ≤ x.target ∧ x.target < (n : Int)) ∧ (0 ≤ x.byte ∧ x.byte < 256)) :
    Calls Try.prog 44 #[.pointer (some ⟨b, 0, none⟩), .int .i64 k, .string s, fateV l] W fun e W' => e = .returned (.tuple #[]) ∧ ∃ u', Hp w0 (DvTh b p u' f (landR d k s l) M) W' := by
  have hnum := hi.num
  have hfew := hi.few
  induction l with
  | nil =>
    have := carry_whole s h k (by omega) hi.all hs (by omega) (by omega)
    have e : landR d k s [] = dputR d k s := by
      show placeR d k s 256 = _
      rw [← dput_place s k 256 hs (Nat.le_refl _), extract_all s hs]
    rw [e]
    exact this
  | cons x l ih =>
    have hx := hl x (List.mem_cons_self ..)
    unfold fateV landR
    by_cases k1 : x.kind = 1
    · rw [if_pos k1, if_pos k1]
      exact carry_lost s k h
    rw [if_neg k1, if_neg k1]
    by_cases k2 : x.kind = 2
    · rw [if_pos k2, if_pos k2]
      obtain ⟨t, ht⟩ := Int.eq_ofNat_of_zero_le hx.1.1
      have := carry_astray s h t (by have := hx.1.2; omega) hi.all hs (by omega) (by omega) (page := (k : Int))
      rw [ht, ← dput_place s t 256 hs (Nat.le_refl _), extract_all s hs]
      exact this
    rw [if_neg k2, if_neg k2]
    by_cases k3 : x.kind = 3
    · rw [if_pos k3, if_pos k3]
      obtain ⟨t, ht⟩ := Int.eq_ofNat_of_zero_le hx.2.1
      have ht2 : t ≤ 256 := by have := hx.2.2; omega
      have := carry_torn s h k (by omega) hi.all hs (by omega) (by omega) t ht2
      rw [ht, Int.toNat_natCast, ← dput_place s k t hs ht2]
      exact this
    rw [if_neg k3, if_neg k3]
    exact ih (fun y hy => hl y (List.mem_cons_of_mem _ hy))
theorem enters_w1 : EntersF 42 := enters_of Try.func42 (by kernel_rfl) rfl
set_option maxHeartbeats 4000000 in
theorem w1_any (x : Flt) (n : Int) (B : Nat) (W : World) (hc : W.cell? ⟨B, 1, none⟩ = some (.int .i64 n)) :
    Calls Try.prog 42 #[.agg (fltCells x).toArray, .pointer (some ⟨B, 0, none⟩)] W fun e w' => e = .returned (.bool (decide (¬ x.at_ = n))) ∧ Below W.heap.size W w' := by
  obtain ⟨kd, at_, pg, tg, by_, ms⟩ := x
  have HB : Hid (Below W.heap.size W (W.alloc (.cells #[.int .i64 kd, .int .i64 at_, .int .i64 pg, .int .i64 tg, .int .i64 by_, .int .u8 ms] 29))) := (Below.refl _ _).alloc (Nat.le_refl _) _
  have hc2 : (W.alloc (.cells #[.int .i64 kd, .int .i64 at_, .int .i64 pg, .int .i64 tg, .int .i64 by_, .int .u8 ms] 29)).cell? ⟨B, 1, none⟩ = some (.int .i64 n) := (HB.out.cell (p := ⟨B, 1, none⟩) (World.block_lt_of_cell? W _ hc)).trans hc
  clear hc
  show Calls Try.prog 42 #[.agg #[.int .i64 kd, .int .i64 at_, .int .i64 pg, .int .i64 tg, .int .i64 by_, .int .u8 ms], .pointer (some ⟨B, 0, none⟩)] W fun e w' => e = .returned (.bool (decide (¬ at_ = n))) ∧ Below W.heap.size W w'
  by_cases h : at_ = n
  · have h1 : (at_ != n) = false := by simp [h]
    have HD : Hid (decide (¬ at_ = n) = false) := by show _ = _; simp [h]
    clear h
    go_enter Try.func42, Try.ntmps42
    go_wp2
    go_ret
    exact ⟨by rw [HD.out]; rfl, HB.out⟩
  · have h1 : (at_ != n) = true := by simp [h]
    have HD : Hid (decide (¬ at_ = n) = true) := by show _ = _; simp [h]
    clear h
    go_enter Try.func42, Try.ntmps42
    go_wp2
    go_ret
    exact ⟨by rw [HD.out]; rfl, HB.out⟩
theorem enters_w2 : EntersF 43 := enters_of Try.func43 (by kernel_rfl) rfl
set_option maxHeartbeats 4000000 in
theorem w2_any (x : Flt) (n : Int) (B : Nat) (W : World) (hc : W.cell? ⟨B, 1, none⟩ = some (.int .i64 n)) :
    Calls Try.prog 43 #[.agg (fltCells x).toArray, .pointer (some ⟨B, 0, none⟩)] W fun e w' => e = .returned (.bool (decide (x.at_ = n))) ∧ Below W.heap.size W w' := by
  obtain ⟨kd, at_, pg, tg, by_, ms⟩ := x
  have HB : Hid (Below W.heap.size W (W.alloc (.cells #[.int .i64 kd, .int .i64 at_, .int .i64 pg, .int .i64 tg, .int .i64 by_, .int .u8 ms] 29))) := (Below.refl _ _).alloc (Nat.le_refl _) _
  have hc2 : (W.alloc (.cells #[.int .i64 kd, .int .i64 at_, .int .i64 pg, .int .i64 tg, .int .i64 by_, .int .u8 ms] 29)).cell? ⟨B, 1, none⟩ = some (.int .i64 n) := (HB.out.cell (p := ⟨B, 1, none⟩) (World.block_lt_of_cell? W _ hc)).trans hc
  clear hc
  show Calls Try.prog 43 #[.agg #[.int .i64 kd, .int .i64 at_, .int .i64 pg, .int .i64 tg, .int .i64 by_, .int .u8 ms], .pointer (some ⟨B, 0, none⟩)] W fun e w' => e = .returned (.bool (decide (at_ = n))) ∧ Below W.heap.size W w'
  by_cases h : at_ = n
  · have h1 : (at_ == n) = true := by simp [h]
    have HD : Hid (decide (at_ = n) = true) := by show _ = _; simp [h]
    clear h
    go_enter Try.func43, Try.ntmps43
    go_wp2
    go_ret
    exact ⟨by rw [HD.out]; rfl, HB.out⟩
  · have h1 : (at_ == n) = false := by simp [h]
    have HD : Hid (decide (at_ = n) = false) := by show _ = _; simp [h]
    clear h
    go_enter Try.func43, Try.ntmps43
    go_wp2
    go_ret
    exact ⟨by rw [HD.out]; rfl, HB.out⟩
end Go.Proofs.Ythcjkbhkidijoaa
/- the program's Write -/
namespace Go.Proofs.Ythcjkbhkidijoaa
open Go.RowKit
set_option maxRecDepth 20000
set_option linter.unusedSimpArgs false
set_option linter.unusedVariables false

theorem now_eq (d : Dv) : (d.faults.filter fun x => !decide (¬ x.at_ = d.writes + 1)) = nowR d := by
  unfold nowR
  congr 1
  funext x
  simp
theorem land_faults (d : Dv) (page : Int) (s : ByteArray) : ∀ l : List Flt, (landR d page s l).faults = d.faults
  | [] => rfl
  | x :: l => by
    unfold landR
    split
    · rfl
    · split
      · rfl
      · split
        · rfl
        · exact land_faults d page s l
theorem happen_faults (d : Dv) (x : Flt) : (happenR d x).faults = d.faults := by
  unfold happenR
  split
  · rfl
  · split
    · rfl
    · split <;> rfl
theorem fold_faults : ∀ (l : List Flt) (d : Dv), (l.foldl happenR d).faults = d.faults
  | [], _ => rfl
  | x :: l, d => (fold_faults l (happenR d x)).trans (happen_faults d x)
/-- what a valid device is to the program's Write -/
theorem ok_inv {d : Dv} (h : dvOkB d = true) : DvInv d.pages.length 64 d ∧ d.pages.length ≤ 64 ∧ d.faults.length ≤ 64 ∧ 0 ≤ d.writes ∧ d.writes ≤ 1099511627776 ∧ ∀ x ∈ d.faults, fltOkB d.pages.length d.writes x = true := by
  unfold dvOkB numsB at h
  simp only [Bool.and_eq_true, Bool.not_eq_true', decide_eq_false_iff_not] at h
  obtain ⟨⟨h1, h2, h3, h4, h5⟩, h6, h7, h8⟩ := h
  have hb : ∀ i, i < d.unread.length → unreadAtB d.pages.length d.unread i = true := fun i hi => (List.all_eq_true.1 h7) i (List.mem_range.2 hi)
  have hat : ∀ i (hi : i < d.unread.length), 0 ≤ d.unread[i] ∧ d.unread[i] < (d.pages.length : Int) ∧ (0 < i → d.unread.getD (i - 1) 0 < d.unread[i]) := fun i hi => by
    have := hb i hi
    unfold unreadAtB at this
    have e : d.unread.getD i 0 = d.unread[i] := by rw [List.getD_eq_getElem?_getD, List.getElem?_eq_getElem hi]; rfl
    rw [e] at this
    simp only [Bool.and_eq_true, Bool.not_eq_true', decide_eq_false_iff_not, Bool.and_eq_false_iff] at this
    refine ⟨by omega, by omega, fun h0 => ?_⟩
    rcases this.2.2 with h9 | h9
    · exact absurd h0 h9
    · omega
  have hasc : d.unread.Pairwise (· < ·) := by
    rw [List.pairwise_iff_getElem]
    intro i j hi hj hij
    induction j with
    | zero => omega
    | succ j ih =>
      have hstep := (hat (j + 1) hj).2.2 (Nat.succ_pos _)
      have e : d.unread.getD (j + 1 - 1) 0 = d.unread[j]'(by omega) := by rw [Nat.add_sub_cancel, List.getD_eq_getElem?_getD, List.getElem?_eq_getElem (by omega)]; rfl
      rw [e] at hstep
      rcases Nat.lt_or_eq_of_le (Nat.le_of_lt_succ hij) with h9 | h9
      · have := ih (by omega) h9
        omega
      · subst h9; exact hstep
  have hge : ∀ i (hi : i < d.unread.length), (i : Int) ≤ d.unread[i] := by
    intro i
    induction i with
    | zero => intro hi; exact (hat 0 hi).1
    | succ i ih =>
      intro hi
      have h9 := ih (by omega)
      have h10 := List.pairwise_iff_getElem.1 hasc i (i + 1) (by omega) hi (Nat.lt_succ_self _)
      omega
  have hfew : d.unread.length ≤ 64 := by
    rcases Nat.eq_zero_or_pos d.unread.length with h0 | h0
    · omega
    · have h9 := hge (d.unread.length - 1) (by omega)
      have h10 := (hat (d.unread.length - 1) (by omega)).2.1
      omega
  refine ⟨⟨rfl, fun s hs => by simpa using (List.all_eq_true.1 h6) s hs, hasc, hfew⟩, by omega, by omega, by omega, by omega, fun x hx => (List.all_eq_true.1 h8) x hx⟩
theorem flt_ranges {n : Nat} {w : Int} {x : Flt} (h : fltOkB n w x = true) : (0 ≤ x.target ∧ x.target < (n : Int)) ∧ (0 ≤ x.byte ∧ x.byte < 256) ∧ (0 ≤ x.page ∧ x.page < (n : Int)) := by
  unfold fltOkB rangesB at h
  simp only [Bool.and_eq_true, Bool.not_eq_true', decide_eq_false_iff_not] at h
  obtain ⟨⟨h1, h2, h3, h4, h5, h6, h7, h8⟩, _⟩ := h
  omega
theorem mask_rng {x : Flt} (h : GoodFlt x) : 0 ≤ x.mask ∧ x.mask < 256 := by
  have := h.mask
  have e1 : IntKind.u8.min = 0 := by decide
  have e2 : IntKind.u8.max = 255 := by decide
  simp [Lit.wf, e1, e2] at this
  omega
set_option maxHeartbeats 16000000 in
theorem write_any {p u f : Value} {d : Dv} {R : List Rng} (page : Int) (s : ByteArray) (w : World) (h : DvRd p u f d R) (hR : RdIn w R) (hg : GoodDv d) (hss : s.size ≤ maxLen) (hp : d.pages.length ≤ 1000) (hf : d.faults.length ≤ 1000) :
    Calls Try.prog 20 #[.agg (dvCells p d u f).toArray, .int .i64 page, .string s] w (DvPost w R (writeR d page s)) := by
  have HV : Hid (∀ W, Below w.heap.size w W → Calls Try.prog 38 #[.agg (dvCells p d u f).toArray, .int .i64 page] W fun e w' => e = .returned (.int .i64 (usableR d page)) ∧ Below W.heap.size W w') := fun W hb => reach_any page W h (hR.below hb) hg
  have HCp : Hid (∀ W, Below w.heap.size w W → Calls Try.prog 39 #[.agg (dvCells p d u f).toArray] W fun e w' => ∃ v, e = .returned v ∧ OwnDv W w' v d) := fun W hb => copied_any W h (hR.below hb) hp hg.unread hf
  have HGf : Hid (∀ x ∈ d.faults, GoodFlt x) := hg.faults
  have HLf := Lib.hid hf
  obtain ⟨fs, hud⟩ := under_dv
  have HUD := Lib.hid hud
  obtain ⟨fs2, huf⟩ := under_flt
  have HUF := Lib.hid huf
  clear hud huf
  obtain ⟨pa, pc, rfl, hp1, hp3, hP2⟩ := h.pages.open hR
  obtain ⟨ua, uc, rfl, hu1, hu3, hU2⟩ := h.unread.open hR
  obtain ⟨fa, fc, rfl, hf1, hf3, hF2⟩ := h.faults.open hR
  clear h hR hg hP2 hU2 hF2 hf hp
  have h1 := ((Hp.start w).put 27 (dvCells (.slice pa d.pages.length pc) d (.slice ua d.unread.length uc) (.slice fa d.faults.length fc))).put 27 (dvCells nilS dvNil nilS nilS)
  simp only [World.size_alloc, List.nil_append, List.cons_append] at h1
  have HS0 : Hid (Hp w [.ob w.heap.size 27 (dvCells (.slice pa d.pages.length pc) d (.slice ua d.unread.length uc) (.slice fa d.faults.length fc)), .ob (w.heap.size + 1) 27 (dvCells nilS dvNil nilS nilS)] ((w.alloc (.cells (dvCells (.slice pa d.pages.length pc) d (.slice ua d.unread.length uc) (.slice fa d.faults.length fc)).toArray 27)).alloc (.cells #[.slice none 0 0, .int .i64 0, .slice none 0 0, .bool false, .slice none 0 0] 27))) := h1
  clear h1 hp1 hp3 hu1 hu3 hf1 hf3
  have hsm : (s.size : Int) ≤ 9223372036854775807 := by unfold maxLen at hss; omega
  clear hss
  go_enter Try.func20, Try.ntmps20
  go_wp2_with (first | ((with_reducible refine wpList_load_ob 27 (.tmp 3) (w.heap.size) (dvCells (.slice pa d.pages.length pc) d (.slice ua d.unread.length uc) (.slice fa d.faults.length fc)) 27 HUD.out ?_ ?_ ?_ ?_ ?_); (exact rfl); (exact (HS0.out).get 0 rfl); (exact rfl); (exact info_dv); simp only [Act.put, List.setIfInBounds_toArray, List.set_cons_zero, List.set_cons_succ]))
  refine (HV.out _ (HS0.out).old).mono ?_
  rintro e w3 ⟨rfl, hb⟩
  have HS2 : Hid (Hp w [.ob (w.heap.size) 27 (dvCells (.slice pa d.pages.length pc) d (.slice ua d.unread.length uc) (.slice fa d.faults.length fc)), .ob ((w.heap.size + 1)) 27 (dvCells nilS dvNil nilS nilS)] w3) := (HS0.out).calls hb
  clear hb
  clear HS0
  generalize (w.heap.size + 1) = B1 at *
  clear HV
  by_cases hv : usableR d page = 0
  case neg =>
    have HX := Lib.hid hv
    have hq : (usableR d page != 0) = true := by rw [bne_iff_ne]; exact hv
    clear hv
    go_wp2_with (first | ((with_reducible refine wpList_build_v 27 (.agg (dvCells nilS dvNil nilS nilS).toArray) ?_ ?_); (intro W; simp only [List.map_toArray, List.map_cons, List.map_nil]; exact build_dv0 W); simp only [Act.put, List.setIfInBounds_toArray, List.set_cons_zero, List.set_cons_succ]) | ((with_reducible refine wpList_store_ob 27 (.tmp 6) B1 (dvCells nilS dvNil nilS nilS) (dvCells nilS dvNil nilS nilS) 27 ?_ ?_ ?_ ?_ ?_ ?_ ?_); (exact rfl); (exact rfl); (exact (HS2.out).get 1 rfl); (exact info_dv); (exact rfl); (exact (oneCell_dv _ _ _ _ _ _ _ _ _ _)); skip))
    have HS3 : Hid (Hp w [.ob (w.heap.size) 27 (dvCells (.slice pa d.pages.length pc) d (.slice ua d.unread.length uc) (.slice fa d.faults.length fc)), .ob B1 27 (dvCells nilS dvNil nilS nilS)] (w3.setRow B1 (dvCells nilS dvNil nilS nilS).toArray)) := (HS2.out).row 1 rfl (dvCells nilS dvNil nilS nilS)
    clear HS2
    generalize (w3.setRow B1 (dvCells nilS dvNil nilS nilS).toArray) = w4 at *
    refine bodyPost_ret (results_ob_tmp Try.results20 _ _ B1 (dvCells nilS dvNil nilS nilS) 27 _ rfl (HS3.out.get 1 rfl) HUD.out rfl info_dv) rfl ?_
    exact DvPost.none (by unfold writeR; rw [if_pos HX.out]) HS3.out.old
  case pos =>
    have HX : Hid (¬ usableR d page ≠ 0) := fun h => h hv
    have hq : (usableR d page != 0) = false := by rw [hv]; rfl
    obtain ⟨hok, hdd, g0, g1⟩ := usable_ok hv
    have HOk := Lib.hid (ok_inv hok)
    obtain ⟨k, rfl⟩ := Int.eq_ofNat_of_zero_le g0
    have HKn : Hid (k < d.pages.length) := by show _ < _; omega
    clear hv hok hdd g0 g1
    have b1 : w3.cell? ⟨w.heap.size, 1, none⟩ = some (.int .i64 d.writes) := (HS2.out).at 0 rfl 1 rfl
    by_cases hz : s.size = 256
    case neg =>
      have HY := Lib.hid hz
      have hqs : ((s.size : Int) != 256) = true := by rw [bne_iff_ne]; omega
      clear hz
      go_wp2_with (first | ((with_reducible refine wpList_build_v 27 (.agg (dvCells nilS dvNil nilS nilS).toArray) ?_ ?_); (intro W; simp only [List.map_toArray, List.map_cons, List.map_nil]; exact build_dv0 W); simp only [Act.put, List.setIfInBounds_toArray, List.set_cons_zero, List.set_cons_succ]) | ((with_reducible refine wpList_store_ob 27 (.tmp 6) B1 (dvCells nilS dvNil nilS nilS) (dvCells nilS dvNil nilS nilS) 27 ?_ ?_ ?_ ?_ ?_ ?_ ?_); (exact rfl); (exact rfl); (exact (HS2.out).get 1 rfl); (exact info_dv); (exact rfl); (exact (oneCell_dv _ _ _ _ _ _ _ _ _ _)); skip))
      have HS3 : Hid (Hp w [.ob (w.heap.size) 27 (dvCells (.slice pa d.pages.length pc) d (.slice ua d.unread.length uc) (.slice fa d.faults.length fc)), .ob B1 27 (dvCells nilS dvNil nilS nilS)] (w3.setRow B1 (dvCells nilS dvNil nilS nilS).toArray)) := (HS2.out).row 1 rfl (dvCells nilS dvNil nilS nilS)
      clear HS2
      generalize (w3.setRow B1 (dvCells nilS dvNil nilS nilS).toArray) = w4 at *
      refine bodyPost_ret (results_ob_tmp Try.results20 _ _ B1 (dvCells nilS dvNil nilS nilS) 27 _ rfl (HS3.out.get 1 rfl) HUD.out rfl info_dv) rfl ?_
      exact DvPost.none (by unfold writeR; rw [if_neg HX.out, if_pos HY.out]) HS3.out.old
    case pos =>
      have HY : Hid (¬ s.size ≠ 256) := fun h => h hz
      have HSz := Lib.hid hz
      have hqs : ((s.size : Int) != 256) = false := by rw [hz]; rfl
      clear hz
      by_cases hl : d.writes = 1099511627776
      case pos =>
        have HZ := Lib.hid hl
        have hql : (d.writes == 1099511627776) = true := by rw [hl]; rfl
        clear hl
        go_wp2_with (first | ((with_reducible refine wpList_build_v 27 (.agg (dvCells nilS dvNil nilS nilS).toArray) ?_ ?_); (intro W; simp only [List.map_toArray, List.map_cons, List.map_nil]; exact build_dv0 W); simp only [Act.put, List.setIfInBounds_toArray, List.set_cons_zero, List.set_cons_succ]) | ((with_reducible refine wpList_store_ob 27 (.tmp 6) B1 (dvCells nilS dvNil nilS nilS) (dvCells nilS dvNil nilS nilS) 27 ?_ ?_ ?_ ?_ ?_ ?_ ?_); (exact rfl); (exact rfl); (exact (HS2.out).get 1 rfl); (exact info_dv); (exact rfl); (exact (oneCell_dv _ _ _ _ _ _ _ _ _ _)); skip))
        have HS3 : Hid (Hp w [.ob (w.heap.size) 27 (dvCells (.slice pa d.pages.length pc) d (.slice ua d.unread.length uc) (.slice fa d.faults.length fc)), .ob B1 27 (dvCells nilS dvNil nilS nilS)] (w3.setRow B1 (dvCells nilS dvNil nilS nilS).toArray)) := (HS2.out).row 1 rfl (dvCells nilS dvNil nilS nilS)
        clear HS2
        generalize (w3.setRow B1 (dvCells nilS dvNil nilS nilS).toArray) = w4 at *
        refine bodyPost_ret (results_ob_tmp Try.results20 _ _ B1 (dvCells nilS dvNil nilS nilS) 27 _ rfl (HS3.out.get 1 rfl) HUD.out rfl info_dv) rfl ?_
        exact DvPost.none (by unfold writeR; rw [if_neg HX.out, if_neg HY.out, if_pos HZ.out]) HS3.out.old
      case neg =>
        have HZ := Lib.hid hl
        have hql : (d.writes == 1099511627776) = false := by rw [beq_eq_false_iff_ne]; exact hl
        have hwr : IntKind.i64.wrap (d.writes + 1) = d.writes + 1 := by rw [IntKind.wrap_i64]; have := HOk.out.2.2.2; omega
        clear hl
        go_wp2_with (first | ((with_reducible refine wpList_load_ob 27 (.tmp 3) (w.heap.size) (dvCells (.slice pa d.pages.length pc) d (.slice ua d.unread.length uc) (.slice fa d.faults.length fc)) 27 HUD.out ?_ ?_ ?_ ?_ ?_); (exact rfl); (exact (HS2.out).get 0 rfl); (exact rfl); (exact info_dv); simp only [Act.put, List.setIfInBounds_toArray, List.set_cons_zero, List.set_cons_succ]))
        refine (HCp.out _ (HS2.out).old).mono ?_
        rintro e w20 ⟨v, rfl, p', u', f', rfl, hk⟩
        obtain ⟨a1, c1, rfl⟩ := own_slice (hk.own 0 rfl)
        obtain ⟨a2, c2, rfl⟩ := own_slice (hk.own 1 rfl)
        obtain ⟨a3, c3, rfl⟩ := own_slice (hk.own 2 rfl)
        have HS3 : Hid (Hp w [.ob (w.heap.size) 27 (dvCells (.slice pa d.pages.length pc) d (.slice ua d.unread.length uc) (.slice fa d.faults.length fc)), .ob B1 27 (dvCells nilS dvNil nilS nilS), .sl ((.slice a1 d.pages.length c1)) 9 1 (d.pages.length) (strRow d.pages), .sl ((.slice a2 d.unread.length c2)) 3 1 (d.unread.length) (intRow d.unread), .sl ((.slice a3 d.faults.length c3)) 29 6 (d.faults.length) (fltRow d.faults)] w20) := (HS2.out).join hk (three_sl (sl_plain _ _ _ _ _) (sl_plain _ _ _ _ _) (sl_plain _ _ _ _ _))
        clear HS2
        clear HCp b1 hk
        have b1 : (w20.setRow (w.heap.size) (dvCells (.slice a1 d.pages.length c1) d (.slice a2 d.unread.length c2) (.slice a3 d.faults.length c3)).toArray).cell? ⟨w.heap.size, 1, none⟩ = some (.int .i64 d.writes) := ((HS3.out).row 0 rfl (dvCells (.slice a1 d.pages.length c1) d (.slice a2 d.unread.length c2) (.slice a3 d.faults.length c3))).at 0 rfl 1 rfl
        have f1 : (w20.setRow (w.heap.size) (dvCells (.slice a1 d.pages.length c1) d (.slice a2 d.unread.length c2) (.slice a3 d.faults.length c3)).toArray).frozen? ⟨w.heap.size, 1, none⟩ = false := ((HS3.out).row 0 rfl (dvCells (.slice a1 d.pages.length c1) d (.slice a2 d.unread.length c2) (.slice a3 d.faults.length c3))).frozen 0 rfl 1
        have HS5 : Hid (Hp w [.ob w.heap.size 27 (dvCells (.slice a1 d.pages.length c1) (⟨d.pages, d.writes + 1, d.unread, d.dead, d.faults⟩ : Dv) (.slice a2 d.unread.length c2) (.slice a3 d.faults.length c3)), .ob B1 27 (dvCells nilS dvNil nilS nilS), .sl (.slice a1 d.pages.length c1) 9 1 d.pages.length (strRow d.pages), .sl (.slice a2 d.unread.length c2) 3 1 d.unread.length (intRow d.unread), .sl (.slice a3 d.faults.length c3) 29 6 d.faults.length (fltRow d.faults)] ((w20.setRow (w.heap.size) (dvCells (.slice a1 d.pages.length c1) d (.slice a2 d.unread.length c2) (.slice a3 d.faults.length c3)).toArray).setCell ⟨w.heap.size, 1, none⟩ (.int .i64 (d.writes + 1)))) := ((HS3.out).row 0 rfl (dvCells (.slice a1 d.pages.length c1) d (.slice a2 d.unread.length c2) (.slice a3 d.faults.length c3))).set 0 rfl 1 (.int .i64 (d.writes + 1))
        have b4 := HS5.out.at 0 rfl 4 rfl
        go_wp2_with (first | ((with_reducible refine wpList_store_ob 27 (.tmp 3) (w.heap.size) (dvCells (.slice a1 d.pages.length c1) d (.slice a2 d.unread.length c2) (.slice a3 d.faults.length c3)) (dvCells (.slice pa d.pages.length pc) d (.slice ua d.unread.length uc) (.slice fa d.faults.length fc)) 27 ?_ ?_ ?_ ?_ ?_ ?_ ?_); (exact rfl); (exact rfl); (exact (HS3.out).get 0 rfl); (exact info_dv); (exact rfl); (exact (oneCell_dv _ _ _ _ _ _ _ _ _ _)); skip))
        clear b1 f1 b4 HS3
        generalize (w20.setRow (w.heap.size) (dvCells (.slice a1 d.pages.length c1) d (.slice a2 d.unread.length c2) (.slice a3 d.faults.length c3)).toArray).setCell ⟨w.heap.size, 1, none⟩ (.int .i64 (d.writes + 1)) = w5 at *
        have HS6 : Hid (Hp w (DvTh w.heap.size (.slice a1 d.pages.length c1) (.slice a2 d.unread.length c2) (.slice a3 d.faults.length c3) (⟨d.pages, d.writes + 1, d.unread, d.dead, d.faults⟩ : Dv) [.ob B1 27 (dvCells nilS dvNil nilS nilS), .sl (.slice a3 d.faults.length c3) 29 6 d.faults.length (fltRow d.faults)]) w5) := HS5.out.pull [0, 2, 3, 1, 4] rfl (pull_nd HS5.out.nd [0, 2, 3, 1, 4] rfl (by decide))
        clear HS5
        obtain ⟨R3, hr3, hi3, _⟩ := own_reads (HS6.out.own 4 rfl)
        refine (cloneF_any d.faults _ R3 w5 hr3 hi3 HLf.out).mono ?_
        rintro e w6 ⟨v6, rfl, hb6, ho6⟩
        have HS7 : Hid (Hp w (DvTh w.heap.size (.slice a1 d.pages.length c1) (.slice a2 d.unread.length c2) (.slice a3 d.faults.length c3) (⟨d.pages, d.writes + 1, d.unread, d.dead, d.faults⟩ : Dv) [.ob B1 27 (dvCells nilS dvNil nilS nilS), .sl (.slice a3 d.faults.length c3) 29 6 d.faults.length (fltRow d.faults), .sl v6 29 6 d.faults.length (fltRow d.faults)]) w6) := HS6.out.addown hb6 ho6
        clear HS6 hr3 hi3 hb6 ho6
        have hfn1 : FltFnX 42 #[.pointer (some ⟨w.heap.size, 0, none⟩)] (fun x => decide (¬ x.at_ = d.writes + 1)) d.faults v6.ownBlock w6 := fun W x hx hgr => w1_any x (d.writes + 1) w.heap.size W (by
          rw [World.cell?_of_block (a := ⟨w.heap.size, 1, none⟩) (hgr.block w.heap.size (HS7.out.lt 0 rfl rfl).2 (fun e => HS7.out.ne 0 5 rfl rfl (by decide) rfl e.symm rfl))]
          exact HS7.out.at 0 rfl 1 rfl)
        go_wp2_with fail
        refine (delFlt_own _ _ _ d.faults v6 w.heap.size w6 enters_w1 (HS7.out.own 5 rfl) hfn1 HLf.out).mono ?_
        rintro e w7 ⟨v7, rfl, ho7, hgr7, hbl7⟩
        rw [now_eq] at ho7
        have HS8 : Hid (Hp w (DvTh w.heap.size (.slice a1 d.pages.length c1) (.slice a2 d.unread.length c2) (.slice a3 d.faults.length c3) (⟨d.pages, d.writes + 1, d.unread, d.dead, d.faults⟩ : Dv) [.ob B1 27 (dvCells nilS dvNil nilS nilS), .sl (.slice a3 d.faults.length c3) 29 6 d.faults.length (fltRow d.faults), .sl v7 29 6 (nowR d).length (fltRow (nowR d))]) w7) := HS7.out.grown 5 rfl ho7 hgr7 (.inl hbl7)
        clear HS7 hfn1 ho7 hgr7 hbl7
        have hfn2 : FltFnX 43 #[.pointer (some ⟨w.heap.size, 0, none⟩)] (fun x => decide (x.at_ = d.writes + 1)) d.faults ((.slice a3 d.faults.length c3) : Value).ownBlock w7 := fun W x hx hgr => w2_any x (d.writes + 1) w.heap.size W (by
          rw [World.cell?_of_block (a := ⟨w.heap.size, 1, none⟩) (hgr.block w.heap.size (HS8.out.lt 0 rfl rfl).2 (fun e => HS8.out.ne 0 4 rfl rfl (by decide) rfl e.symm rfl))]
          exact HS8.out.at 0 rfl 1 rfl)
        have b4 := HS8.out.at 0 rfl 4 rfl
        go_wp2_with fail
        refine (delFlt_own _ _ _ d.faults (.slice a3 d.faults.length c3) w.heap.size w7 enters_w2 (HS8.out.own 4 rfl) hfn2 HLf.out).mono ?_
        rintro e w8 ⟨v8, rfl, ho8, hgr8, hbl8⟩
        rw [show (d.faults.filter fun x => !decide (x.at_ = d.writes + 1)) = laterR d from rfl] at ho8
        obtain ⟨a8, c8, rfl⟩ := own_slice ho8
        have HS9 : Hid (Hp w (DvTh w.heap.size (.slice a1 d.pages.length c1) (.slice a2 d.unread.length c2) (.slice a3 d.faults.length c3) (⟨d.pages, d.writes + 1, d.unread, d.dead, d.faults⟩ : Dv) [.ob B1 27 (dvCells nilS dvNil nilS nilS), .sl (.slice a8 (laterR d).length c8) 29 6 (laterR d).length (fltRow (laterR d)), .sl v7 29 6 (nowR d).length (fltRow (nowR d))]) w8) := HS8.out.grown 4 rfl ho8 hgr8 (.inl hbl8)
        clear HS8 hfn2 ho8 hgr8 hbl8 b4
        have b4 := HS9.out.at 0 rfl 4 rfl
        have f4 := HS9.out.frozen 0 rfl 4
        have HS10 : Hid (Hp w (DvTh w.heap.size (.slice a1 d.pages.length c1) (.slice a2 d.unread.length c2) (.slice a8 (laterR d).length c8) (⟨d.pages, d.writes + 1, d.unread, d.dead, laterR d⟩ : Dv) [.ob B1 27 (dvCells nilS dvNil nilS nilS), .sl (.slice a8 (laterR d).length c8) 29 6 (laterR d).length (fltRow (laterR d)), .sl v7 29 6 (nowR d).length (fltRow (nowR d))]) (w8.setCell ⟨w.heap.size, 4, none⟩ (.slice a8 (laterR d).length c8))) := HS9.out.set 0 rfl 4 (.slice a8 (laterR d).length c8)
        go_wp2_with fail
        clear b4 f4 HS9
        generalize w8.setCell ⟨w.heap.size, 4, none⟩ (.slice a8 (laterR d).length c8) = w10 at *
        obtain ⟨a7, c7, rfl⟩ := own_slice (HS10.out.own 5 rfl)
        have HNl : Hid ((nowR d).length ≤ 64) := Nat.le_trans (List.length_filter_le _ _) HOk.out.2.2.1
        have HNx : Hid (∀ x ∈ nowR d, ((0 ≤ x.target ∧ x.target < (d.pages.length : Int)) ∧ (0 ≤ x.byte ∧ x.byte < 256) ∧ (0 ≤ x.page ∧ x.page < (d.pages.length : Int))) ∧ (0 ≤ x.mask ∧ x.mask < 256)) := fun x hx => ⟨flt_ranges (HOk.out.2.2.2.2.2 x (List.mem_filter.1 hx).1), mask_rng (HGf.out x (List.mem_filter.1 hx).1)⟩
        obtain ⟨R7, hr7, hi7, _⟩ := own_reads (HS10.out.own 5 rfl)
        refine (fate_any (nowR d) _ R7 w10 hr7 hi7 (by have := HNl.out; omega)).mono ?_
        rintro e w11 ⟨rfl, hb11⟩
        have HS11 := Lib.hid (HS10.out.calls hb11)
        clear HS10 hb11 hr7 hi7
        have HI2 : Hid (DvInv d.pages.length 64 (⟨d.pages, d.writes + 1, d.unread, d.dead, laterR d⟩ : Dv)) := ⟨rfl, HOk.out.1.all, HOk.out.1.asc, HOk.out.1.few⟩
        have hcar := carry_any s k (nowR d) HS11.out HI2.out (by have := HOk.out.2.1; omega) (by decide) HKn.out HSz.out (fun x hx => ⟨(HNx.out x hx).1.1, (HNx.out x hx).1.2.1⟩)
        have HI3 : Hid (DvInv d.pages.length 64 (landR (⟨d.pages, d.writes + 1, d.unread, d.dead, laterR d⟩ : Dv) k s (nowR d))) := land_inv HI2.out k ⟨by omega, by have := HKn.out; omega⟩ s HSz.out _ (fun x hx => ⟨(HNx.out x hx).1.1, (HNx.out x hx).1.2.1⟩)
        have HRes : Hid (writeR d k s = ((nowR d).foldl happenR (landR (⟨d.pages, d.writes + 1, d.unread, d.dead, laterR d⟩ : Dv) k s (nowR d)), 0)) := by
          show _ = _
          unfold writeR
          rw [if_neg HX.out, if_neg HY.out, if_neg HZ.out]
        go_wp2_with fail
        refine hcar.mono ?_
        rintro e w12 ⟨rfl, u12, h12⟩
        have HS12 := Lib.hid h12
        clear hcar h12 HS11
        have HF3 : Hid ((landR (⟨d.pages, d.writes + 1, d.unread, d.dead, laterR d⟩ : Dv) k s (nowR d)).faults = laterR d) := land_faults _ _ _ _
        generalize landR (⟨d.pages, d.writes + 1, d.unread, d.dead, laterR d⟩ : Dv) k s (nowR d) = d3 at *
        obtain ⟨l, hll⟩ : ∃ l, nowR d = l := ⟨_, rfl⟩
        rw [hll] at HS12 HRes HNx HNl
        go_wp2_with fail
        clear hll HI2 HKn HSz hsm hwr hq hqs hql
        go_loopw [52] (fun i wr => ∃ (j : Nat) (uv : Value), j ≤ l.length ∧ i = .int .i64 j ∧ Hp w (DvTh w.heap.size (.slice a1 d.pages.length c1) uv (.slice a8 (laterR d).length c8) ((l.take j).foldl happenR d3) [.ob B1 27 (dvCells nilS dvNil nilS nilS), .sl (.slice a8 (laterR d).length c8) 29 6 (laterR d).length (fltRow (laterR d)), .sl (.slice a7 l.length c7) 29 6 l.length (fltRow l)]) wr) (fun i _ => l.length - (intOf i).toNat)
        case atStart => exact ⟨0, u12, by omega, rfl, HS12.out⟩
        case round =>
          obtain ⟨j, uv, hj, rfl, hs⟩ := hrel
          have HY2 := Lib.hid hs
          clear hs HS12
          by_cases hlt : j < l.length
          · have ho := HY2.out.own 5 rfl
            rcases ho.2 with ⟨_, h0⟩ | ⟨gq, cq, curq, hvq, hBq, hgq, hq1, hq2, hq3, hq4⟩
            · omega
            have ea : a7 = some ⟨gq, 0, none⟩ := by injection hvq
            subst ea
            obtain ⟨x, hx⟩ : ∃ x, l[j] = x := ⟨_, rfl⟩
            have hcells : Hid (wr.rangeAt gq (j * 6) (fltCells x)) := own_range ho rfl (j * 6) (fltCells x) (fun t v hv => fltRow_at l j hlt t v (by rw [hx]; exact hv))
            clear ho hvq hBq hgq hq1 hq2 hq3 hq4
            have hji : (j : Int) < (l.length : Int) := by omega
            have hj0 : (0 : Int) ≤ (j : Int) := by omega
            have hjm : (j : Int) < 1001 := by have := HNl.out; omega
            have HSt : Hid ((l.take (j + 1)).foldl happenR d3 = happenR ((l.take j).foldl happenR d3) x) := by
              show _ = _
              rw [List.take_succ_eq_append_getElem hlt, List.foldl_append, hx]
              rfl
            have hfi := fold_inv (l.take j) HI3.out
            have hxm : x ∈ l := by rw [← hx]; exact List.getElem_mem hlt
            have HStr : Hid (StrOk ((l.take j).foldl happenR d3) x) := ⟨by rw [hfi.num]; have := HOk.out.2.1; omega, hfi.all, hfi.asc, by have h1 := hfi.few; have h2 := HNl.out; rw [List.length_take] at h1; omega, by rw [hfi.num]; exact (HNx.out x hxm).1.2.2, (HNx.out x hxm).1.2.1, (HNx.out x hxm).2⟩
            clear hfi hxm hx
            have hrow : ((wr.alloc (.cells (fltCells fltNil).toArray 29)).setRow wr.heap.size (fltCells x).toArray).heap[wr.heap.size]? = some (.cells (fltCells x).toArray 29 (0, 0)) := setRow_heap _ _ _ _ _ _ (heap_alloc_last wr _)
            have HRow := Lib.hid hrow
            have HB3 := Lib.hid (HY2.out.calls (below_setRow ((Below.refl wr.heap.size wr).alloc (Nat.le_refl _) _) (Nat.le_refl _) (fltCells x).toArray) : Hp w _ ((wr.alloc (.cells (fltCells fltNil).toArray 29)).setRow wr.heap.size (fltCells x).toArray))
            have hstr := strike_any x HB3.out HStr.out
            clear hrow
            go_wp2_with (first | ((with_reducible refine wpList_load_at 29 (.tmp 54) gq (j * 6) (fltCells x) HUF.out ?_ ?_ ?_ ?_ ?_); (exact rfl); (exact hcells.out); (exact rfl); (exact info_flt); simp only [Act.put, List.setIfInBounds_toArray, List.set_cons_zero, List.set_cons_succ]) | ((with_reducible refine wpList_alloc_ob 29 (fltCells fltNil) ?_ ?_); (exact alloc_flt); simp only [Act.put, List.setIfInBounds_toArray, List.set_cons_zero, List.set_cons_succ]) | ((with_reducible refine wpList_store_ob 29 (.tmp 11) wr.heap.size (fltCells x) (fltCells fltNil) 29 ?_ ?_ ?_ ?_ ?_ ?_ ?_); (exact rfl); (exact rfl); (exact heap_alloc_last wr _); (exact info_flt); (exact rfl); (exact oneCell_flt _); skip) | ((with_reducible refine wpList_load_ob 29 (.tmp 11) wr.heap.size (fltCells x) 29 HUF.out ?_ ?_ ?_ ?_ ?_); (exact rfl); (exact HRow.out); (exact rfl); (exact info_flt); simp only [Act.put, List.setIfInBounds_toArray, List.set_cons_zero, List.set_cons_succ]))
            refine hstr.mono ?_
            rintro e w14 ⟨rfl, u14, h14⟩
            rw [← HSt.out] at h14
            have HS14 := Lib.hid h14
            clear h14 hstr HB3 HY2 HRow
            go_wp2_with fail
            go_roundw
            case rel => exact ⟨j + 1, u14, by omega, by go_num, HS14.out⟩
            case measure => simp [intOf]; omega
          · obtain rfl : j = l.length := by omega
            rw [List.take_length] at HY2
            have HFz : Hid ((l.foldl happenR d3).faults = laterR d) := by show _ = _; rw [fold_faults, HF3.out]
            generalize l.foldl happenR d3 = dz at *
            obtain ⟨az, cz, rfl⟩ := own_slice (HY2.out.own 2 rfl)
            go_wp2_with (first | ((with_reducible refine wpList_load_ob 27 (.tmp 3) w.heap.size (dvCells (.slice a1 d.pages.length c1) dz (.slice az dz.unread.length cz) (.slice a8 (laterR d).length c8)) 27 HUD.out ?_ ?_ ?_ ?_ ?_); (exact rfl); (exact HY2.out.get 0 rfl); (exact rfl); (exact info_dv); simp only [Act.put, List.setIfInBounds_toArray, List.set_cons_zero, List.set_cons_succ]) | ((with_reducible refine wpList_store_ob 27 (.tmp 6) B1 (dvCells (.slice a1 d.pages.length c1) dz (.slice az dz.unread.length cz) (.slice a8 (laterR d).length c8)) (dvCells nilS dvNil nilS nilS) 27 ?_ ?_ ?_ ?_ ?_ ?_ ?_); (exact rfl); (exact rfl); (exact HY2.out.get 3 rfl); (exact info_dv); (exact rfl); (exact (oneCell_dv _ _ _ _ _ _ _ _ _ _)); skip))
            have HF : Hid (Hp w [.ob w.heap.size 27 (dvCells (.slice a1 d.pages.length c1) dz (.slice az dz.unread.length cz) (.slice a8 (laterR d).length c8)), .sl (.slice a1 d.pages.length c1) 9 1 dz.pages.length (strRow dz.pages), .sl (.slice az dz.unread.length cz) 3 1 dz.unread.length (intRow dz.unread), .ob B1 27 (dvCells (.slice a1 d.pages.length c1) dz (.slice az dz.unread.length cz) (.slice a8 (laterR d).length c8)), .sl (.slice a8 (laterR d).length c8) 29 6 (laterR d).length (fltRow (laterR d)), .sl (.slice a7 l.length c7) 29 6 l.length (fltRow l)] (wr.setRow B1 (dvCells (.slice a1 d.pages.length c1) dz (.slice az dz.unread.length cz) (.slice a8 (laterR d).length c8)).toArray)) := HY2.out.row 3 rfl (dvCells (.slice a1 d.pages.length c1) dz (.slice az dz.unread.length cz) (.slice a8 (laterR d).length c8))
            clear HY2
            generalize wr.setRow B1 (dvCells (.slice a1 d.pages.length c1) dz (.slice az dz.unread.length cz) (.slice a8 (laterR d).length c8)).toArray = w15 at *
            refine bodyPost_ret (results_ob_tmp Try.results20 _ _ B1 (dvCells (.slice a1 d.pages.length c1) dz (.slice az dz.unread.length cz) (.slice a8 (laterR d).length c8)) 27 _ rfl (HF.out.get 3 rfl) HUD.out rfl info_dv) rfl ?_
            obtain ⟨R', hrd, hin, hnew⟩ := own_dv (d := dz) (HF.out.own 1 rfl) (HF.out.own 2 rfl) (by rw [HFz.out]; exact HF.out.own 4 rfl)
            rw [HRes.out]
            exact ⟨_, _, _, R', rfl, hrd, hin, fun r hr => .inl (hnew r hr), HF.out.old⟩
end Go.Proofs.Ythcjkbhkidijoaa
/- the reference's place -/
namespace Go.Proofs.Ythcjkbhkidijoaa
open Go.RowKit
set_option maxRecDepth 20000
set_option linter.unusedSimpArgs false
set_option linter.unusedVariables false

/-- a slice that a callee made stands where it is asked for -/
theorem Hp.insOwn {w W W' : World} (L1 : List Th) {L2 : List Th} (h : Hp w (L1 ++ L2) W) (hb : Below W.heap.size W W') {v : Value} {t : TypeId} {z n : Nat} {xs : List Value} (ho : W'.ownsRow W.heap.size t z v n xs) : Hp w (L1 ++ (.sl v t z n xs :: L2)) W' :=
  (h.addown hb ho).perm (by
    rw [List.append_assoc]
    exact List.Perm.append_left _ List.perm_append_comm)
set_option maxHeartbeats 8000000 in
theorem place_any {w0 W : World} {M : List Th} {p u : Value} {d : Dv} {fa : Option Addr} {fl fc : Nat} (s : ByteArray) (k n : Nat) (h : Hp w0 (.sl p 9 1 d.pages.length (strRow d.pages) :: .sl u 3 1 d.unread.length (intRow d.unread) :: M) W) (hk : k < d.pages.length) (hold : ∀ s ∈ d.pages, s.size = 256) (hs : s.size = 256) (hn : n ≤ 256) (hu : d.unread.length ≤ 1000) :
    Calls Try.prog 48 #[.agg (dvCells p d u (.slice fa fl fc)).toArray, .int .i64 k, .string s, .int .i64 n] W fun e W' => ∃ u', e = .returned (.agg (dvCells p (placeR d k s n) u' (.slice fa fl fc)).toArray) ∧ Hp w0 (.sl p 9 1 (placeR d k s n).pages.length (strRow (placeR d k s n).pages) :: .sl u' 3 1 (placeR d k s n).unread.length (intRow (placeR d k s n).unread) :: M) W' := by
  have hpo := h.own 0 rfl
  rcases hpo.2 with ⟨_, h0⟩ | ⟨g, cap, cur, rfl, hB, hg, h1, h2, h3, h4⟩
  · omega
  obtain ⟨a, c, rfl⟩ := own_slice (h.own 1 rfl)
  obtain ⟨y, hy⟩ : ∃ y, d.pages[k] = y := ⟨_, rfl⟩
  have hys : y.size = 256 := by rw [← hy]; exact hold _ (List.getElem_mem hk)
  have hyD : d.pages.getD k ⟨#[]⟩ = y := by rw [List.getD_eq_getElem?_getD, List.getElem?_eq_getElem hk]; exact hy
  have HP : Hid (placeR d k s n = ⟨d.pages.set k (s.extract 0 n ++ y.extract n 256), d.writes, withoutR d.unread k, d.dead, d.faults⟩) := by show _ = _; unfold placeR; rw [Int.toNat_natCast, hyD]
  obtain ⟨fs, hud⟩ := under_dv
  have HUD := Lib.hid hud
  have h5 := (h.ins [_, _] 27 (dvCells (.slice (some ⟨g, 0, none⟩) d.pages.length cap) d (.slice a d.unread.length c) (.slice fa fl fc))).ins [_, _, _] 27 (dvCells nilS dvNil nilS nilS)
  simp only [World.size_alloc, List.cons_append, List.nil_append] at h5
  have HS0 : Hid (Hp w0 ((.sl (.slice (some ⟨g, 0, none⟩) d.pages.length cap) 9 1 d.pages.length (strRow d.pages)) :: (.sl (.slice a d.unread.length c) 3 1 d.unread.length (intRow d.unread)) :: .ob W.heap.size 27 (dvCells (.slice (some ⟨g, 0, none⟩) d.pages.length cap) d (.slice a d.unread.length c) (.slice fa fl fc)) :: .ob (W.heap.size + 1) 27 (dvCells nilS dvNil nilS nilS) :: M) ((W.alloc (.cells (dvCells (.slice (some ⟨g, 0, none⟩) d.pages.length cap) d (.slice a d.unread.length c) (.slice fa fl fc)).toArray 27)).alloc (.cells #[.slice none 0 0, .int .i64 0, .slice none 0 0, .bool false, .slice none 0 0] 27))) := h5
  have HPat : Hid ((strRow d.pages)[k]? = some (.string y)) := by show _ = _; rw [strRow_at d.pages k hk, hy]
  have HU := Lib.hid hu
  have HKl := Lib.hid hk
  have hk0 : (0 : Int) ≤ (k : Int) := by omega
  have hkn : (k : Int) < (d.pages.length : Int) := by omega
  have hn0 : (0 : Int) ≤ (n : Int) := by omega
  have hnn : (n : Int) ≤ 256 := by omega
  have hcc : ¬ 9223372036854775807 < min n 256 + (256 - n) := by omega
  clear h h5 hud hk hold hu hpo hB hg h1 h2 h3 h4 hy hyD hn
  go_enter Try.func48, Try.ntmps48
  go_upto_region 1 with (fail)
  generalize ((W.alloc (.cells (dvCells (.slice (some ⟨g, 0, none⟩) d.pages.length cap) d (.slice a d.unread.length c) (.slice fa fl fc)).toArray 27)).alloc (.cells #[.slice none 0 0, .int .i64 0, .slice none 0 0, .bool false, .slice none 0 0] 27)) = w1 at *
  generalize W.heap.size + 1 = b8 at *
  generalize W.heap.size = b4 at *
  have hcell := (HS0.out.drew.slcell 0 rfl k HPat.out).1
  have hfz := (HS0.out.drew.slcell 0 rfl k HPat.out).2
  have b0 := HS0.out.drew.at 2 rfl 0 rfl
  go_region
  clear b0 hcell hfz hk0 hkn hn0 hnn hcc
  have HS1 : Hid (Hp w0 ((.sl (.slice (some ⟨g, 0, none⟩) d.pages.length cap) 9 1 d.pages.length (strRow (d.pages.set k (s.extract 0 n ++ y.extract n 256)))) :: (.sl (.slice a d.unread.length c) 3 1 d.unread.length (intRow d.unread)) :: .ob b4 27 (dvCells (.slice (some ⟨g, 0, none⟩) d.pages.length cap) d (.slice a d.unread.length c) (.slice fa fl fc)) :: .ob b8 27 (dvCells nilS dvNil nilS nilS) :: M) ((w1.setCell ⟨g, k, none⟩ (.string (s.extract 0 n ++ y.extract n 256))).drew)) := by
    have h := (HS0.out.slset 0 rfl k HKl.out (.string (s.extract 0 n ++ y.extract n 256))).drew
    rw [strRow_set] at h
    exact Lib.hid h
  clear HS0
  generalize (w1.setCell ⟨g, k, none⟩ (.string (s.extract 0 n ++ y.extract n 256))).drew = w2 at *
  have b2 := HS1.out.at 2 rfl 2 rfl
  obtain ⟨R, hv, hR, _⟩ := own_reads (HS1.out.own 1 rfl)
  have hcall := without_any d.unread (k : Int) _ R w2 hv hR HU.out
  clear hv hR
  go_wp2_with fail
  refine hcall.mono ?_
  rintro e w3 ⟨u', rfl, hb, ho⟩
  have HS2 := Lib.hid (Hp.del [_, _] (HS1.out.insOwn [_] hb ho))
  clear hcall hb ho b2
  obtain ⟨a', c', rfl⟩ := own_slice (HS2.out.own 1 rfl)
  have b2 := HS2.out.at 2 rfl 2 rfl
  have f2 := HS2.out.frozen 2 rfl 2
  go_upto_region 3 with (fail)
  have HS3 : Hid (Hp w0 ((.sl (.slice (some ⟨g, 0, none⟩) d.pages.length cap) 9 1 d.pages.length (strRow (d.pages.set k (s.extract 0 n ++ y.extract n 256)))) :: (.sl (.slice a' (withoutR d.unread k).length c') 3 1 (withoutR d.unread k).length (intRow (withoutR d.unread k))) :: .ob b4 27 (dvCells (.slice (some ⟨g, 0, none⟩) d.pages.length cap) (⟨d.pages.set k (s.extract 0 n ++ y.extract n 256), d.writes, withoutR d.unread k, d.dead, d.faults⟩ : Dv) (.slice a' (withoutR d.unread k).length c') (.slice fa fl fc)) :: .ob b8 27 (dvCells nilS dvNil nilS nilS) :: M) (w3.setCell ⟨b4, 2, none⟩ (.slice a' (withoutR d.unread k).length c'))) := HS2.out.set 2 rfl 2 (.slice a' (withoutR d.unread k).length c')
  clear HS1 HS2 b2 f2
  generalize w3.setCell ⟨b4, 2, none⟩ (.slice a' (withoutR d.unread k).length c') = w4 at *
  go_wp2_with (first | ((with_reducible refine wpList_load_ob 27 (.tmp 4) b4 (dvCells (.slice (some ⟨g, 0, none⟩) d.pages.length cap) (⟨d.pages.set k (s.extract 0 n ++ y.extract n 256), d.writes, withoutR d.unread k, d.dead, d.faults⟩ : Dv) (.slice a' (withoutR d.unread k).length c') (.slice fa fl fc)) 27 HUD.out ?_ ?_ ?_ ?_ ?_); (exact rfl); (exact HS3.out.get 2 rfl); (exact rfl); (exact info_dv); simp only [Act.put, List.setIfInBounds_toArray, List.set_cons_zero, List.set_cons_succ]) | ((with_reducible refine wpList_store_ob 27 (.tmp 8) b8 (dvCells (.slice (some ⟨g, 0, none⟩) d.pages.length cap) (⟨d.pages.set k (s.extract 0 n ++ y.extract n 256), d.writes, withoutR d.unread k, d.dead, d.faults⟩ : Dv) (.slice a' (withoutR d.unread k).length c') (.slice fa fl fc)) (dvCells nilS dvNil nilS nilS) 27 ?_ ?_ ?_ ?_ ?_ ?_ ?_); (exact rfl); (exact rfl); (exact HS3.out.get 3 rfl); (exact info_dv); (exact rfl); (exact (oneCell_dv _ _ _ _ _ _ _ _ _ _)); skip))
  have HS4 := Lib.hid (HS3.out.row 3 rfl (dvCells (.slice (some ⟨g, 0, none⟩) d.pages.length cap) (⟨d.pages.set k (s.extract 0 n ++ y.extract n 256), d.writes, withoutR d.unread k, d.dead, d.faults⟩ : Dv) (.slice a' (withoutR d.unread k).length c') (.slice fa fl fc)))
  refine bodyPost_ret (results_ob Try.results48 _ _ b8 (dvCells (.slice (some ⟨g, 0, none⟩) d.pages.length cap) (⟨d.pages.set k (s.extract 0 n ++ y.extract n 256), d.writes, withoutR d.unread k, d.dead, d.faults⟩ : Dv) (.slice a' (withoutR d.unread k).length c') (.slice fa fl fc)) 27 _ rfl (HS4.out.get 3 rfl) HUD.out rfl info_dv) rfl ⟨.slice a' (withoutR d.unread k).length c', ?_⟩
  rw [HP.out]
  refine ⟨rfl, ?_⟩
  have h := Hp.del [_, _] (Hp.del [_, _, _] HS4.out)
  show Hp w0 (.sl (.slice (some ⟨g, 0, none⟩) d.pages.length cap) _ 1 (d.pages.set k (s.extract 0 n ++ y.extract n 256)).length _ :: _) _
  rw [List.length_set]
  exact h
end Go.Proofs.Ythcjkbhkidijoaa
