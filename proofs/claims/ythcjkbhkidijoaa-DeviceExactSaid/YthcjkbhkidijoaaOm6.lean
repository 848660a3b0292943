/- texts of a claim, one after the other: the law's odd: a device with one change, the walk of the law's 'small', the reference's Tear, the reference's Replace, the reference's Same, of two values that read as the same device, the law's awake: the example of chapter 4 -/
import Derived.Test.YthcjkbhkidijoaaOm5
import Derived.Test.YthcjkbhkidijoaaOm1
import Derived.Test.YthcjkbhkidijoaaOm3
import Derived.Deep.CutBlock
import Derived.Test.YthcjkbhkidijoaaOm2
/- the law's odd: a device with one change -/
namespace Go.Proofs.Ythcjkbhkidijoaa
open Go.RowKit
set_option maxRecDepth 20000
set_option linter.unusedSimpArgs false
set_option linter.unusedVariables false

def OddPost (C : Nat) (w : World) (n : Nat) (e : Ending) (w' : World) : Prop := ∃ (d : Dv) (p u f : Value) (R : List Rng), e = .returned (.agg (dvCells p d u f).toArray) ∧ GoodDv d ∧ d.pages.length ≤ n + 1 ∧ d.faults.length ≤ n + 66 ∧ DvRd p u f d R ∧ RdIn w' R ∧ (∀ r ∈ R, w.heap.size ≤ r.1) ∧ Besides C w w' ∧ CodesOk w' C
theorem str_snoc (l : List ByteArray) (x : ByteArray) : strRow (l ++ [x]) = strRow l ++ [.string x] := by simp [strRow]
theorem int_snoc (l : List Int) (x : Int) : intRow (l ++ [x]) = intRow l ++ [.int .i64 x] := by simp [intRow]
set_option maxHeartbeats 16000000 in
theorem odd_any (C : Nat) {p u f : Value} {d : Dv} {R : List Rng} (w : World) (h : CodesOk w C) (hd : DvRd p u f d R) (hR : RdIn w R) (hg : GoodDv d) (hp : d.pages.length ≤ 70) (hu : d.unread.length ≤ 70) (hf : d.faults.length ≤ 70) :
    Calls Try.prog 16 #[.pointer (some ⟨C, 0, none⟩), .agg (dvCells p d u f).toArray] w (OddPost C w 70) := by
  obtain ⟨fs, hud⟩ := under_dv
  have HUD := Lib.hid hud
  obtain ⟨fs2, huf⟩ := under_flt
  have HUF := Lib.hid huf
  clear hud huf
  have HUX : Hid (Try.prog.underlying 25 = some (.slice 29)) := Try.underlying25
  have HUS : Hid (Try.prog.underlying 23 = some (.slice 9)) := Try.underlying23
  have HUI : Hid (Try.prog.underlying 24 = some (.slice 3)) := Try.underlying24
  have HRi := Lib.hid hR
  have HG := Lib.hid hg
  have HLn := Lib.hid (And.intro hp (And.intro hu hf))
  obtain ⟨pa, pc, rfl, _⟩ := hd.pages
  obtain ⟨ua, uc, rfl, _⟩ := hd.unread
  obtain ⟨fa, fc, rfl, _⟩ := hd.faults
  have HCp := Lib.hid (copy_any (((w.alloc (.cells (dvCells (.slice pa d.pages.length pc) d (.slice ua d.unread.length uc) (.slice fa d.faults.length fc)).toArray 27)).alloc (.cells #[.slice none 0 0, .int .i64 0, .slice none 0 0, .bool false, .slice none 0 0] 27))) hd ((hR.below ((Below.refl _ _).alloc (Nat.le_refl _) _)).below ((Below.refl _ _).alloc (Nat.le_refl _) _)) (by omega) (by omega) (by omega))
  have h1 := ((DrH.start h).put 27 (dvCells (.slice pa d.pages.length pc) d (.slice ua d.unread.length uc) (.slice fa d.faults.length fc))).put 27 (dvCells nilS dvNil nilS nilS)
  have HS0 : Hid (DrH w C [.ob w.heap.size 27 (dvCells (.slice pa d.pages.length pc) d (.slice ua d.unread.length uc) (.slice fa d.faults.length fc)), .ob (w.heap.size + 1) 27 (dvCells nilS dvNil nilS nilS)] ((w.alloc (.cells (dvCells (.slice pa d.pages.length pc) d (.slice ua d.unread.length uc) (.slice fa d.faults.length fc)).toArray 27)).alloc (.cells #[.slice none 0 0, .int .i64 0, .slice none 0 0, .bool false, .slice none 0 0] 27))) := by
    simp only [World.size_alloc, List.nil_append, List.cons_append] at h1
    exact h1
  clear h h1 hd hR hg hp hu hf
  go_enter Try.func16, Try.ntmps16
  go_wp2_with (first | ((with_reducible refine wpList_load_ob 27 (.tmp 3) (w.heap.size) (dvCells (.slice pa d.pages.length pc) d (.slice ua d.unread.length uc) (.slice fa d.faults.length fc)) 27 HUD.out ?_ ?_ ?_ ?_ ?_); (exact rfl); (exact (HS0.out).get 0 rfl); (exact rfl); (exact info_dv); simp only [Act.put, List.setIfInBounds_toArray, List.set_cons_zero, List.set_cons_succ]))
  refine HCp.out.mono ?_
  rintro e w20 ⟨v, rfl, p', u', f', rfl, hk⟩
  obtain ⟨a1, c1, rfl⟩ := own_slice (hk.own 0 rfl)
  obtain ⟨a2, c2, rfl⟩ := own_slice (hk.own 1 rfl)
  obtain ⟨a3, c3, rfl⟩ := own_slice (hk.own 2 rfl)
  have HS2 : Hid (DrH w C [.ob (w.heap.size) 27 (dvCells (.slice pa d.pages.length pc) d (.slice ua d.unread.length uc) (.slice fa d.faults.length fc)), .ob ((w.heap.size + 1)) 27 (dvCells nilS dvNil nilS nilS), .sl ((.slice a1 d.pages.length c1)) 9 1 (d.pages.length) (strRow d.pages), .sl ((.slice a2 d.unread.length c2)) 3 1 (d.unread.length) (intRow d.unread), .sl ((.slice a3 d.faults.length c3)) 29 6 (d.faults.length) (fltRow d.faults)] w20) := (HS0.out).join hk (three_sl (sl_plain _ _ _ _ _) (sl_plain _ _ _ _ _) (sl_plain _ _ _ _ _))
  clear HS0
  generalize (w.heap.size + 1) = B1 at *
  clear HCp hk
  go_wp2_with (first | ((with_reducible refine wpList_store_ob 27 (.tmp 3) (w.heap.size) (dvCells (.slice a1 d.pages.length c1) d (.slice a2 d.unread.length c2) (.slice a3 d.faults.length c3)) (dvCells (.slice pa d.pages.length pc) d (.slice ua d.unread.length uc) (.slice fa d.faults.length fc)) 27 ?_ ?_ ?_ ?_ ?_ ?_ ?_); (exact rfl); (exact rfl); (exact (HS2.out).get 0 rfl); (exact info_dv); (exact rfl); (exact (oneCell_dv _ _ _ _ _ _ _ _ _ _)); skip))
  refine (next_any C 6 _ ((HS2.out).row 0 rfl (dvCells (.slice a1 d.pages.length c1) d (.slice a2 d.unread.length c2) (.slice a3 d.faults.length c3))).codes (by omega)).mono ?_
  rintro e w21 ⟨v, rfl, v0, v1, hb, hc⟩
  have HS3 : Hid (DrH w C [.ob (w.heap.size) 27 (dvCells (.slice a1 d.pages.length c1) d (.slice a2 d.unread.length c2) (.slice a3 d.faults.length c3)), .ob B1 27 (dvCells nilS dvNil nilS nilS), .sl ((.slice a1 d.pages.length c1)) 9 1 (d.pages.length) (strRow d.pages), .sl ((.slice a2 d.unread.length c2)) 3 1 (d.unread.length) (intRow d.unread), .sl ((.slice a3 d.faults.length c3)) 29 6 (d.faults.length) (fltRow d.faults)] w21) := ((HS2.out).row 0 rfl (dvCells (.slice a1 d.pages.length c1) d (.slice a2 d.unread.length c2) (.slice a3 d.faults.length c3))).draws hb hc
  clear hb hc
  clear HS2
  have hv6 : v = 0 ∨ v = 1 ∨ v = 2 ∨ v = 3 ∨ v = 4 ∨ v = 5 := by omega
  clear v0 v1
  go_upto_block 0 with fail
  go_cut [] (fun wx => ∃ (d : Dv) (p u f : Value), GoodDv d ∧ d.pages.length ≤ 71 ∧ d.faults.length ≤ 136 ∧ DrH w C [.ob (w.heap.size) 27 (dvCells p d u f), .ob B1 27 (dvCells nilS dvNil nilS nilS), .sl p 9 1 (d.pages.length) (strRow d.pages), .sl u 3 1 (d.unread.length) (intRow d.unread), .sl f 29 6 (d.faults.length) (fltRow d.faults)] wx)
  case first =>
    rcases hv6 with rfl | rfl | rfl | rfl | rfl | rfl
    · skip
      go_upto_region 4 with (fail)
      have HS4 : Hid (DrH w C [.ob (w.heap.size) 27 (dvCells (.slice a1 d.pages.length c1) d (.slice a2 d.unread.length c2) (.slice a3 d.faults.length c3)), .ob B1 27 (dvCells nilS dvNil nilS nilS), .sl ((.slice a1 d.pages.length c1)) 9 1 (d.pages.length) (strRow d.pages), .sl ((.slice a2 d.unread.length c2)) 3 1 (d.unread.length) (intRow d.unread), .sl ((.slice a3 d.faults.length c3)) 29 6 (d.faults.length) (fltRow d.faults)] w21) := HS3.out
      clear HS3
      refine wp_region_held_drew (S := fun _ => True) (by kernel_rfl) (trivial) (fun hHeld => ?_)
      refine wpAnyH_take (i := 0) (oi := { dst := some 11, op := Op.fieldAddr 27 (Operand.tmp 3) 0, type := 0, pos := "law.go:32", after := #[], guard := none }) (v := ?q1v) rfl (by kernel_rfl) (by kernel_rfl) (by kernel_rfl) (fun _ _ _ h => h) (Or.inl ⟨by rfl, ?q1h⟩) hHeld ?q1r
      case q1h => (intro wq hSw; clear hSw; go_simp; try with_reducible rfl)
      try simp only [Act.put, List.setIfInBounds_toArray, List.set_cons_zero, List.set_cons_succ]
      refine wpAnyH_take (i := 2) (oi := { dst := some 13, op := Op.move (Operand.tmp 0), type := 32, pos := "law.go:32", after := #[], guard := none }) (v := ?q2v) rfl (by kernel_rfl) (by kernel_rfl) (by kernel_rfl) (fun _ _ _ h => h) (Or.inl ⟨by rfl, ?q2h⟩) hHeld ?q2r
      case q2h => (intro wq hSw; clear hSw; go_simp; try with_reducible rfl)
      try simp only [Act.put, List.setIfInBounds_toArray, List.set_cons_zero, List.set_cons_succ]
      refine wpAnyH_ready (rs := [1, 3]) (by kernel_rfl) (by simp) ?_
      refine AllReadyH.cons (o := { dst := some 12, op := Op.load 23 (Operand.tmp 11), type := 23, pos := "law.go:32", after := #[{ on := 0, ground := Ground.data }], guard := none }) rfl (fun K hK => ?_) (AllReadyH.cons (o := { dst := some 14, op := Op.call { callee := Callee.value (Operand.func 19), args := #[Operand.tmp 13], argTypes := #[32] }, type := 9, pos := "law.go:32", after := #[{ on := 2, ground := Ground.data }], guard := none }) rfl (fun K hK => ?_) (AllReadyH.nil))
      · have q41 := (HS4.out).drew.at 0 rfl 0 rfl
        go_simp
        clear q41
        have HS5 : Hid (DrH w C [.ob (w.heap.size) 27 (dvCells (.slice a1 d.pages.length c1) d (.slice a2 d.unread.length c2) (.slice a3 d.faults.length c3)), .ob B1 27 (dvCells nilS dvNil nilS nilS), .sl ((.slice a1 d.pages.length c1)) 9 1 (d.pages.length) (strRow d.pages), .sl ((.slice a2 d.unread.length c2)) 3 1 (d.unread.length) (intRow d.unread), .sl ((.slice a3 d.faults.length c3)) 29 6 (d.faults.length) (fltRow d.faults)] (w21.drew)) := (HS4.out).drew
        refine hK.out _ _ (trivial) (fun hHeld => ?_)
        clear hK K
        generalize w21.drew = w22 at *
        try simp only [Act.put, List.setIfInBounds_toArray, List.set_cons_zero, List.set_cons_succ]
        refine wpAnyH_ready (rs := [3]) (by kernel_rfl) (by simp) ?_
        refine AllReadyH.cons (o := { dst := some 14, op := Op.call { callee := Callee.value (Operand.func 19), args := #[Operand.tmp 13], argTypes := #[32] }, type := 9, pos := "law.go:32", after := #[{ on := 2, ground := Ground.data }], guard := none }) rfl (fun K hK => ?_) (AllReadyH.nil)
        go_simp
        go_wp2_with (go_at_call 19; refine (data_any C _ (HS5.out).codes).mono ?_; rintro e w23 ⟨s, rfl, hsz, hb, hc⟩)
        have HS6 : Hid (DrH w C [.ob (w.heap.size) 27 (dvCells (.slice a1 d.pages.length c1) d (.slice a2 d.unread.length c2) (.slice a3 d.faults.length c3)), .ob B1 27 (dvCells nilS dvNil nilS nilS), .sl ((.slice a1 d.pages.length c1)) 9 1 (d.pages.length) (strRow d.pages), .sl ((.slice a2 d.unread.length c2)) 3 1 (d.unread.length) (intRow d.unread), .sl ((.slice a3 d.faults.length c3)) 29 6 (d.faults.length) (fltRow d.faults)] w23) := (HS5.out).draws hb hc
        refine hK.out _ _ (trivial) (fun hHeld => ?_)
        clear hK K hb hc
        have HSz := Lib.hid hsz
        clear hsz
        try simp only [Act.put, List.setIfInBounds_toArray, List.set_cons_zero, List.set_cons_succ]
        refine wpAnyH_ready (rs := [4]) (by kernel_rfl) (by simp) ?_
        refine AllReadyH.cons (o := { dst := some 15, op := Op.buildSlice 23 1 #[(0, Operand.tmp 14)], type := 23, pos := "law.go:32", after := #[{ on := 3, ground := Ground.data }], guard := none }) rfl (fun K hK => ?_) (AllReadyH.nil)
        rw [if_pos (by rfl)]
        refine wp_build_vals rfl elem_s HUS.out [.string s] (by intro v hv; simp only [List.mem_cons, List.not_mem_nil, or_false] at hv; subst hv; rfl) (Nat.succ_pos _) (by simp only [List.length_cons, List.length_nil]; omega) rfl (by simp only [List.map_toArray, List.map_cons, List.map_nil, List.zipIdx_cons, List.zipIdx_nil]; exact rfl) ?_
        have HS7 : Hid (DrH w C [.ob (w.heap.size) 27 (dvCells (.slice a1 d.pages.length c1) d (.slice a2 d.unread.length c2) (.slice a3 d.faults.length c3)), .ob B1 27 (dvCells nilS dvNil nilS nilS), .sl ((.slice a1 d.pages.length c1)) 9 1 (d.pages.length) (strRow d.pages), .sl ((.slice a2 d.unread.length c2)) 3 1 (d.unread.length) (intRow d.unread), .sl ((.slice a3 d.faults.length c3)) 29 6 (d.faults.length) (fltRow d.faults), .ob (w23.heap.size) 9 ([.string s])] (w23.alloc (.cells ([.string s]).toArray 9))) := (HS6.out).put 9 ([.string s])
        refine hK.out _ _ (trivial) (fun hHeld => ?_)
        clear hK K
        generalize (w23.alloc (.cells ([.string s]).toArray 9)) = w24 at *
        generalize w23.heap.size = B2 at *
        try simp only [Act.put, List.setIfInBounds_toArray, List.set_cons_zero, List.set_cons_succ]
        refine wpAnyH_ready (rs := [5]) (by kernel_rfl) (by simp) ?_
        refine AllReadyH.cons (o := { dst := some 16, op := Op.call { callee := Callee.builtin Builtin.append, args := #[Operand.tmp 12, Operand.tmp 15], argTypes := #[23, 23] }, type := 23, pos := "law.go:32", after := #[{ on := 1, ground := Ground.data }, { on := 4, ground := Ground.data }, { on := 3, ground := Ground.chain }], guard := none }) rfl (fun K hK => ?_) (AllReadyH.nil)
        rw [if_pos (by rfl)]
        refine wp_append_dr (HS7.out) (.tmp 12) (.tmp 15) 23 rfl 2 rfl 5 rfl HUS.out elem_s 1 1 rfl rfl rfl (by intro u hu; rw [List.mem_singleton.1 hu]; rfl) (by have := HLn.out; omega) ?_
        intro v25 w25 hs hnil
        have HS9 : Hid (DrH w C [.ob (w.heap.size) 27 (dvCells (.slice a1 d.pages.length c1) d (.slice a2 d.unread.length c2) (.slice a3 d.faults.length c3)), .ob B1 27 (dvCells nilS dvNil nilS nilS), .sl v25 9 1 (d.pages.length + 1) ((strRow d.pages) ++ ([.string s])), .sl ((.slice a2 d.unread.length c2)) 3 1 (d.unread.length) (intRow d.unread), .sl ((.slice a3 d.faults.length c3)) 29 6 (d.faults.length) (fltRow d.faults), .ob B2 9 ([.string s])] w25) := hs
        refine hK.out _ _ (trivial) (fun hHeld => ?_)
        clear hK K hs
        try simp only [Act.put, List.setIfInBounds_toArray, List.set_cons_zero, List.set_cons_succ]
        refine wpAnyH_take (i := 6) (oi := { dst := some 17, op := Op.fieldAddr 27 (Operand.tmp 3) 0, type := 0, pos := "law.go:32", after := #[{ on := 0, ground := Ground.phase }, { on := 1, ground := Ground.phase }, { on := 2, ground := Ground.phase }, { on := 3, ground := Ground.phase }, { on := 4, ground := Ground.phase }, { on := 5, ground := Ground.phase }], guard := none }) (v := ?q3v) rfl (by kernel_rfl) (by kernel_rfl) (by kernel_rfl) (fun _ _ _ h => h) (Or.inl ⟨by rfl, ?q3h⟩) hHeld ?q3r
        case q3h => (intro wq hSw; clear hSw; go_simp; try with_reducible rfl)
        try simp only [Act.put, List.setIfInBounds_toArray, List.set_cons_zero, List.set_cons_succ]
        refine wpAnyH_ready (rs := [7]) (by kernel_rfl) (by simp) ?_
        refine AllReadyH.cons (o := { dst := none, op := Op.store 23 (Operand.tmp 17) (Operand.tmp 16), type := 0, pos := "law.go:32", after := #[{ on := 6, ground := Ground.data }, { on := 5, ground := Ground.data }, { on := 5, ground := Ground.chain }, { on := 0, ground := Ground.phase }, { on := 1, ground := Ground.phase }, { on := 2, ground := Ground.phase }, { on := 3, ground := Ground.phase }, { on := 4, ground := Ground.phase }, { on := 5, ground := Ground.phase }], guard := none }) rfl (fun K hK => ?_) (AllReadyH.nil)
        obtain ⟨al3, cl3, rfl⟩ := own_slice (HS9.out.own 2 rfl)
        have q52 := HS9.out.at 0 rfl 0 rfl
        have f52 := HS9.out.frozen 0 rfl 0
        go_simp
        clear q52 f52
        have HS10 : Hid (DrH w C [.ob (w.heap.size) 27 (dvCells (.slice al3 (d.pages.length + 1) cl3) d (.slice a2 d.unread.length c2) (.slice a3 d.faults.length c3)), .ob B1 27 (dvCells nilS dvNil nilS nilS), .sl ((.slice al3 (d.pages.length + 1) cl3)) 9 1 (d.pages.length + 1) ((strRow d.pages) ++ ([.string s])), .sl ((.slice a2 d.unread.length c2)) 3 1 (d.unread.length) (intRow d.unread), .sl ((.slice a3 d.faults.length c3)) 29 6 (d.faults.length) (fltRow d.faults), .ob B2 9 ([.string s])] (w25.setCell ⟨(w.heap.size), 0, none⟩ (.slice al3 (d.pages.length + 1) cl3))) := (HS9.out).set 0 rfl 0 (.slice al3 (d.pages.length + 1) cl3)
        refine hK.out _ _ (trivial) (fun hHeld => ?_)
        clear hK K
        generalize (w25.setCell ⟨(w.heap.size), 0, none⟩ (.slice al3 (d.pages.length + 1) cl3)) = w26 at *
        try simp only [Act.put, List.setIfInBounds_toArray, List.set_cons_zero, List.set_cons_succ]
        refine wpAnyH_done (by kernel_rfl) ?_ _
        clear hHeld
        have HS11 : Hid (DrH w C [.ob (w.heap.size) 27 (dvCells (.slice al3 (d.pages.length + 1) cl3) d (.slice a2 d.unread.length c2) (.slice a3 d.faults.length c3)), .ob B1 27 (dvCells nilS dvNil nilS nilS), .sl ((.slice al3 (d.pages.length + 1) cl3)) 9 1 (d.pages.length + 1) ((strRow d.pages) ++ ([.string s])), .sl ((.slice a2 d.unread.length c2)) 3 1 (d.unread.length) (intRow d.unread), .sl ((.slice a3 d.faults.length c3)) 29 6 (d.faults.length) (fltRow d.faults)] w26) := HS10.out.pull [0, 1, 2, 3, 4] rfl (pull_nd HS10.out.nd [0, 1, 2, 3, 4] rfl (by decide))
        clear HS10
        have hh : ∀ wx, DrH w C [.ob (w.heap.size) 27 (dvCells (.slice al3 (d.pages.length + 1) cl3) d (.slice a2 d.unread.length c2) (.slice a3 d.faults.length c3)), .ob B1 27 (dvCells nilS dvNil nilS nilS), .sl ((.slice al3 (d.pages.length + 1) cl3)) 9 1 (d.pages.length + 1) ((strRow d.pages) ++ ([.string s])), .sl ((.slice a2 d.unread.length c2)) 3 1 (d.unread.length) (intRow d.unread), .sl ((.slice a3 d.faults.length c3)) 29 6 (d.faults.length) (fltRow d.faults)] wx → DrH w C [.ob (w.heap.size) 27 (dvCells (.slice al3 (d.pages.length + 1) cl3) (⟨d.pages ++ [s], d.writes, d.unread, d.dead, d.faults⟩ : Dv) (.slice a2 d.unread.length c2) (.slice a3 d.faults.length c3)), .ob B1 27 (dvCells nilS dvNil nilS nilS), .sl ((.slice al3 (d.pages.length + 1) cl3)) 9 1 ((⟨d.pages ++ [s], d.writes, d.unread, d.dead, d.faults⟩ : Dv).pages.length) (strRow (⟨d.pages ++ [s], d.writes, d.unread, d.dead, d.faults⟩ : Dv).pages), .sl ((.slice a2 d.unread.length c2)) 3 1 ((⟨d.pages ++ [s], d.writes, d.unread, d.dead, d.faults⟩ : Dv).unread.length) (intRow (⟨d.pages ++ [s], d.writes, d.unread, d.dead, d.faults⟩ : Dv).unread), .sl ((.slice a3 d.faults.length c3)) 29 6 ((⟨d.pages ++ [s], d.writes, d.unread, d.dead, d.faults⟩ : Dv).faults.length) (fltRow (⟨d.pages ++ [s], d.writes, d.unread, d.dead, d.faults⟩ : Dv).faults)] wx := fun wx h => by
          show DrH w C [_, _, .sl _ _ _ (d.pages ++ [s]).length (strRow (d.pages ++ [s])), _, _] wx
          rw [List.length_append, str_snoc]
          exact h
        go_wp2_with fail
        go_meet
        exact ⟨(⟨d.pages ++ [s], d.writes, d.unread, d.dead, d.faults⟩ : Dv), (.slice al3 (d.pages.length + 1) cl3), (.slice a2 d.unread.length c2), (.slice a3 d.faults.length c3), ⟨HG.out.faults, fun x hx => (List.mem_append.1 hx).elim (HG.out.pages x) (fun h => by rw [List.mem_singleton.1 h]; have := HSz.out; unfold maxLen; omega), HG.out.unread⟩, by have := HLn.out; show (d.pages ++ [s]).length ≤ 71; simp; omega, by have := HLn.out; show d.faults.length ≤ 136; omega, hh _ (HS11.out)⟩
      · go_simp
        go_wp2_with (go_at_call 19; refine (data_any C _ ((HS4.out).drew).codes).mono ?_; rintro e w22 ⟨s, rfl, hsz, hb, hc⟩)
        have HS5 : Hid (DrH w C [.ob (w.heap.size) 27 (dvCells (.slice a1 d.pages.length c1) d (.slice a2 d.unread.length c2) (.slice a3 d.faults.length c3)), .ob B1 27 (dvCells nilS dvNil nilS nilS), .sl ((.slice a1 d.pages.length c1)) 9 1 (d.pages.length) (strRow d.pages), .sl ((.slice a2 d.unread.length c2)) 3 1 (d.unread.length) (intRow d.unread), .sl ((.slice a3 d.faults.length c3)) 29 6 (d.faults.length) (fltRow d.faults)] w22) := ((HS4.out).drew).draws hb hc
        refine hK.out _ _ (trivial) (fun hHeld => ?_)
        clear hK K hb hc
        have HSz := Lib.hid hsz
        clear hsz
        try simp only [Act.put, List.setIfInBounds_toArray, List.set_cons_zero, List.set_cons_succ]
        refine wpAnyH_ready (rs := [1, 4]) (by kernel_rfl) (by simp) ?_
        refine AllReadyH.cons (o := { dst := some 12, op := Op.load 23 (Operand.tmp 11), type := 23, pos := "law.go:32", after := #[{ on := 0, ground := Ground.data }], guard := none }) rfl (fun K hK => ?_) (AllReadyH.cons (o := { dst := some 15, op := Op.buildSlice 23 1 #[(0, Operand.tmp 14)], type := 23, pos := "law.go:32", after := #[{ on := 3, ground := Ground.data }], guard := none }) rfl (fun K hK => ?_) (AllReadyH.nil))
        · have q41 := HS5.out.at 0 rfl 0 rfl
          go_simp
          clear q41
          have HS6 : Hid (DrH w C [.ob (w.heap.size) 27 (dvCells (.slice a1 d.pages.length c1) d (.slice a2 d.unread.length c2) (.slice a3 d.faults.length c3)), .ob B1 27 (dvCells nilS dvNil nilS nilS), .sl ((.slice a1 d.pages.length c1)) 9 1 (d.pages.length) (strRow d.pages), .sl ((.slice a2 d.unread.length c2)) 3 1 (d.unread.length) (intRow d.unread), .sl ((.slice a3 d.faults.length c3)) 29 6 (d.faults.length) (fltRow d.faults)] w22) := HS5.out
          refine hK.out _ _ (trivial) (fun hHeld => ?_)
          clear hK K
          try simp only [Act.put, List.setIfInBounds_toArray, List.set_cons_zero, List.set_cons_succ]
          refine wpAnyH_ready (rs := [4]) (by kernel_rfl) (by simp) ?_
          refine AllReadyH.cons (o := { dst := some 15, op := Op.buildSlice 23 1 #[(0, Operand.tmp 14)], type := 23, pos := "law.go:32", after := #[{ on := 3, ground := Ground.data }], guard := none }) rfl (fun K hK => ?_) (AllReadyH.nil)
          rw [if_pos (by rfl)]
          refine wp_build_vals rfl elem_s HUS.out [.string s] (by intro v hv; simp only [List.mem_cons, List.not_mem_nil, or_false] at hv; subst hv; rfl) (Nat.succ_pos _) (by simp only [List.length_cons, List.length_nil]; omega) rfl (by simp only [List.map_toArray, List.map_cons, List.map_nil, List.zipIdx_cons, List.zipIdx_nil]; exact rfl) ?_
          have HS7 : Hid (DrH w C [.ob (w.heap.size) 27 (dvCells (.slice a1 d.pages.length c1) d (.slice a2 d.unread.length c2) (.slice a3 d.faults.length c3)), .ob B1 27 (dvCells nilS dvNil nilS nilS), .sl ((.slice a1 d.pages.length c1)) 9 1 (d.pages.length) (strRow d.pages), .sl ((.slice a2 d.unread.length c2)) 3 1 (d.unread.length) (intRow d.unread), .sl ((.slice a3 d.faults.length c3)) 29 6 (d.faults.length) (fltRow d.faults), .ob (w22.heap.size) 9 ([.string s])] (w22.alloc (.cells ([.string s]).toArray 9))) := (HS6.out).put 9 ([.string s])
          refine hK.out _ _ (trivial) (fun hHeld => ?_)
          clear hK K
          generalize (w22.alloc (.cells ([.string s]).toArray 9)) = w23 at *
          generalize w22.heap.size = B2 at *
          try simp only [Act.put, List.setIfInBounds_toArray, List.set_cons_zero, List.set_cons_succ]
          refine wpAnyH_ready (rs := [5]) (by kernel_rfl) (by simp) ?_
          refine AllReadyH.cons (o := { dst := some 16, op := Op.call { callee := Callee.builtin Builtin.append, args := #[Operand.tmp 12, Operand.tmp 15], argTypes := #[23, 23] }, type := 23, pos := "law.go:32", after := #[{ on := 1, ground := Ground.data }, { on := 4, ground := Ground.data }, { on := 3, ground := Ground.chain }], guard := none }) rfl (fun K hK => ?_) (AllReadyH.nil)
          rw [if_pos (by rfl)]
          refine wp_append_dr (HS7.out) (.tmp 12) (.tmp 15) 23 rfl 2 rfl 5 rfl HUS.out elem_s 1 1 rfl rfl rfl (by intro u hu; rw [List.mem_singleton.1 hu]; rfl) (by have := HLn.out; omega) ?_
          intro v24 w24 hs hnil
          have HS9 : Hid (DrH w C [.ob (w.heap.size) 27 (dvCells (.slice a1 d.pages.length c1) d (.slice a2 d.unread.length c2) (.slice a3 d.faults.length c3)), .ob B1 27 (dvCells nilS dvNil nilS nilS), .sl v24 9 1 (d.pages.length + 1) ((strRow d.pages) ++ ([.string s])), .sl ((.slice a2 d.unread.length c2)) 3 1 (d.unread.length) (intRow d.unread), .sl ((.slice a3 d.faults.length c3)) 29 6 (d.faults.length) (fltRow d.faults), .ob B2 9 ([.string s])] w24) := hs
          refine hK.out _ _ (trivial) (fun hHeld => ?_)
          clear hK K hs
          try simp only [Act.put, List.setIfInBounds_toArray, List.set_cons_zero, List.set_cons_succ]
          refine wpAnyH_take (i := 6) (oi := { dst := some 17, op := Op.fieldAddr 27 (Operand.tmp 3) 0, type := 0, pos := "law.go:32", after := #[{ on := 0, ground := Ground.phase }, { on := 1, ground := Ground.phase }, { on := 2, ground := Ground.phase }, { on := 3, ground := Ground.phase }, { on := 4, ground := Ground.phase }, { on := 5, ground := Ground.phase }], guard := none }) (v := ?q4v) rfl (by kernel_rfl) (by kernel_rfl) (by kernel_rfl) (fun _ _ _ h => h) (Or.inl ⟨by rfl, ?q4h⟩) hHeld ?q4r
          case q4h => (intro wq hSw; clear hSw; go_simp; try with_reducible rfl)
          try simp only [Act.put, List.setIfInBounds_toArray, List.set_cons_zero, List.set_cons_succ]
          refine wpAnyH_ready (rs := [7]) (by kernel_rfl) (by simp) ?_
          refine AllReadyH.cons (o := { dst := none, op := Op.store 23 (Operand.tmp 17) (Operand.tmp 16), type := 0, pos := "law.go:32", after := #[{ on := 6, ground := Ground.data }, { on := 5, ground := Ground.data }, { on := 5, ground := Ground.chain }, { on := 0, ground := Ground.phase }, { on := 1, ground := Ground.phase }, { on := 2, ground := Ground.phase }, { on := 3, ground := Ground.phase }, { on := 4, ground := Ground.phase }, { on := 5, ground := Ground.phase }], guard := none }) rfl (fun K hK => ?_) (AllReadyH.nil)
          obtain ⟨al3, cl3, rfl⟩ := own_slice (HS9.out.own 2 rfl)
          have q52 := HS9.out.at 0 rfl 0 rfl
          have f52 := HS9.out.frozen 0 rfl 0
          go_simp
          clear q52 f52
          have HS10 : Hid (DrH w C [.ob (w.heap.size) 27 (dvCells (.slice al3 (d.pages.length + 1) cl3) d (.slice a2 d.unread.length c2) (.slice a3 d.faults.length c3)), .ob B1 27 (dvCells nilS dvNil nilS nilS), .sl ((.slice al3 (d.pages.length + 1) cl3)) 9 1 (d.pages.length + 1) ((strRow d.pages) ++ ([.string s])), .sl ((.slice a2 d.unread.length c2)) 3 1 (d.unread.length) (intRow d.unread), .sl ((.slice a3 d.faults.length c3)) 29 6 (d.faults.length) (fltRow d.faults), .ob B2 9 ([.string s])] (w24.setCell ⟨(w.heap.size), 0, none⟩ (.slice al3 (d.pages.length + 1) cl3))) := (HS9.out).set 0 rfl 0 (.slice al3 (d.pages.length + 1) cl3)
          refine hK.out _ _ (trivial) (fun hHeld => ?_)
          clear hK K
          generalize (w24.setCell ⟨(w.heap.size), 0, none⟩ (.slice al3 (d.pages.length + 1) cl3)) = w25 at *
          try simp only [Act.put, List.setIfInBounds_toArray, List.set_cons_zero, List.set_cons_succ]
          refine wpAnyH_done (by kernel_rfl) ?_ _
          clear hHeld
          have HS11 : Hid (DrH w C [.ob (w.heap.size) 27 (dvCells (.slice al3 (d.pages.length + 1) cl3) d (.slice a2 d.unread.length c2) (.slice a3 d.faults.length c3)), .ob B1 27 (dvCells nilS dvNil nilS nilS), .sl ((.slice al3 (d.pages.length + 1) cl3)) 9 1 (d.pages.length + 1) ((strRow d.pages) ++ ([.string s])), .sl ((.slice a2 d.unread.length c2)) 3 1 (d.unread.length) (intRow d.unread), .sl ((.slice a3 d.faults.length c3)) 29 6 (d.faults.length) (fltRow d.faults)] w25) := HS10.out.pull [0, 1, 2, 3, 4] rfl (pull_nd HS10.out.nd [0, 1, 2, 3, 4] rfl (by decide))
          clear HS10
          have hh : ∀ wx, DrH w C [.ob (w.heap.size) 27 (dvCells (.slice al3 (d.pages.length + 1) cl3) d (.slice a2 d.unread.length c2) (.slice a3 d.faults.length c3)), .ob B1 27 (dvCells nilS dvNil nilS nilS), .sl ((.slice al3 (d.pages.length + 1) cl3)) 9 1 (d.pages.length + 1) ((strRow d.pages) ++ ([.string s])), .sl ((.slice a2 d.unread.length c2)) 3 1 (d.unread.length) (intRow d.unread), .sl ((.slice a3 d.faults.length c3)) 29 6 (d.faults.length) (fltRow d.faults)] wx → DrH w C [.ob (w.heap.size) 27 (dvCells (.slice al3 (d.pages.length + 1) cl3) (⟨d.pages ++ [s], d.writes, d.unread, d.dead, d.faults⟩ : Dv) (.slice a2 d.unread.length c2) (.slice a3 d.faults.length c3)), .ob B1 27 (dvCells nilS dvNil nilS nilS), .sl ((.slice al3 (d.pages.length + 1) cl3)) 9 1 ((⟨d.pages ++ [s], d.writes, d.unread, d.dead, d.faults⟩ : Dv).pages.length) (strRow (⟨d.pages ++ [s], d.writes, d.unread, d.dead, d.faults⟩ : Dv).pages), .sl ((.slice a2 d.unread.length c2)) 3 1 ((⟨d.pages ++ [s], d.writes, d.unread, d.dead, d.faults⟩ : Dv).unread.length) (intRow (⟨d.pages ++ [s], d.writes, d.unread, d.dead, d.faults⟩ : Dv).unread), .sl ((.slice a3 d.faults.length c3)) 29 6 ((⟨d.pages ++ [s], d.writes, d.unread, d.dead, d.faults⟩ : Dv).faults.length) (fltRow (⟨d.pages ++ [s], d.writes, d.unread, d.dead, d.faults⟩ : Dv).faults)] wx := fun wx h => by
            show DrH w C [_, _, .sl _ _ _ (d.pages ++ [s]).length (strRow (d.pages ++ [s])), _, _] wx
            rw [List.length_append, str_snoc]
            exact h
          go_wp2_with fail
          go_meet
          exact ⟨(⟨d.pages ++ [s], d.writes, d.unread, d.dead, d.faults⟩ : Dv), (.slice al3 (d.pages.length + 1) cl3), (.slice a2 d.unread.length c2), (.slice a3 d.faults.length c3), ⟨HG.out.faults, fun x hx => (List.mem_append.1 hx).elim (HG.out.pages x) (fun h => by rw [List.mem_singleton.1 h]; have := HSz.out; unfold maxLen; omega), HG.out.unread⟩, by have := HLn.out; show (d.pages ++ [s]).length ≤ 71; simp; omega, by have := HLn.out; show d.faults.length ≤ 136; omega, hh _ (HS11.out)⟩
        · rw [if_pos (by rfl)]
          refine wp_build_vals rfl elem_s HUS.out [.string s] (by intro v hv; simp only [List.mem_cons, List.not_mem_nil, or_false] at hv; subst hv; rfl) (Nat.succ_pos _) (by simp only [List.length_cons, List.length_nil]; omega) rfl (by simp only [List.map_toArray, List.map_cons, List.map_nil, List.zipIdx_cons, List.zipIdx_nil]; exact rfl) ?_
          have HS6 : Hid (DrH w C [.ob (w.heap.size) 27 (dvCells (.slice a1 d.pages.length c1) d (.slice a2 d.unread.length c2) (.slice a3 d.faults.length c3)), .ob B1 27 (dvCells nilS dvNil nilS nilS), .sl ((.slice a1 d.pages.length c1)) 9 1 (d.pages.length) (strRow d.pages), .sl ((.slice a2 d.unread.length c2)) 3 1 (d.unread.length) (intRow d.unread), .sl ((.slice a3 d.faults.length c3)) 29 6 (d.faults.length) (fltRow d.faults), .ob (w22.heap.size) 9 ([.string s])] (w22.alloc (.cells ([.string s]).toArray 9))) := (HS5.out).put 9 ([.string s])
          refine hK.out _ _ (trivial) (fun hHeld => ?_)
          clear hK K
          generalize (w22.alloc (.cells ([.string s]).toArray 9)) = w23 at *
          generalize w22.heap.size = B2 at *
          try simp only [Act.put, List.setIfInBounds_toArray, List.set_cons_zero, List.set_cons_succ]
          refine wpAnyH_ready (rs := [1]) (by kernel_rfl) (by simp) ?_
          refine AllReadyH.cons (o := { dst := some 12, op := Op.load 23 (Operand.tmp 11), type := 23, pos := "law.go:32", after := #[{ on := 0, ground := Ground.data }], guard := none }) rfl (fun K hK => ?_) (AllReadyH.nil)
          have q41 := HS6.out.at 0 rfl 0 rfl
          go_simp
          clear q41
          have HS7 : Hid (DrH w C [.ob (w.heap.size) 27 (dvCells (.slice a1 d.pages.length c1) d (.slice a2 d.unread.length c2) (.slice a3 d.faults.length c3)), .ob B1 27 (dvCells nilS dvNil nilS nilS), .sl ((.slice a1 d.pages.length c1)) 9 1 (d.pages.length) (strRow d.pages), .sl ((.slice a2 d.unread.length c2)) 3 1 (d.unread.length) (intRow d.unread), .sl ((.slice a3 d.faults.length c3)) 29 6 (d.faults.length) (fltRow d.faults), .ob B2 9 ([.string s])] w23) := HS6.out
          refine hK.out _ _ (trivial) (fun hHeld => ?_)
          clear hK K
          try simp only [Act.put, List.setIfInBounds_toArray, List.set_cons_zero, List.set_cons_succ]
          refine wpAnyH_ready (rs := [5]) (by kernel_rfl) (by simp) ?_
          refine AllReadyH.cons (o := { dst := some 16, op := Op.call { callee := Callee.builtin Builtin.append, args := #[Operand.tmp 12, Operand.tmp 15], argTypes := #[23, 23] }, type := 23, pos := "law.go:32", after := #[{ on := 1, ground := Ground.data }, { on := 4, ground := Ground.data }, { on := 3, ground := Ground.chain }], guard := none }) rfl (fun K hK => ?_) (AllReadyH.nil)
          rw [if_pos (by rfl)]
          refine wp_append_dr (HS7.out) (.tmp 12) (.tmp 15) 23 rfl 2 rfl 5 rfl HUS.out elem_s 1 1 rfl rfl rfl (by intro u hu; rw [List.mem_singleton.1 hu]; rfl) (by have := HLn.out; omega) ?_
          intro v24 w24 hs hnil
          have HS9 : Hid (DrH w C [.ob (w.heap.size) 27 (dvCells (.slice a1 d.pages.length c1) d (.slice a2 d.unread.length c2) (.slice a3 d.faults.length c3)), .ob B1 27 (dvCells nilS dvNil nilS nilS), .sl v24 9 1 (d.pages.length + 1) ((strRow d.pages) ++ ([.string s])), .sl ((.slice a2 d.unread.length c2)) 3 1 (d.unread.length) (intRow d.unread), .sl ((.slice a3 d.faults.length c3)) 29 6 (d.faults.length) (fltRow d.faults), .ob B2 9 ([.string s])] w24) := hs
          refine hK.out _ _ (trivial) (fun hHeld => ?_)
          clear hK K hs
          try simp only [Act.put, List.setIfInBounds_toArray, List.set_cons_zero, List.set_cons_succ]
          refine wpAnyH_take (i := 6) (oi := { dst := some 17, op := Op.fieldAddr 27 (Operand.tmp 3) 0, type := 0, pos := "law.go:32", after := #[{ on := 0, ground := Ground.phase }, { on := 1, ground := Ground.phase }, { on := 2, ground := Ground.phase }, { on := 3, ground := Ground.phase }, { on := 4, ground := Ground.phase }, { on := 5, ground := Ground.phase }], guard := none }) (v := ?q5v) rfl (by kernel_rfl) (by kernel_rfl) (by kernel_rfl) (fun _ _ _ h => h) (Or.inl ⟨by rfl, ?q5h⟩) hHeld ?q5r
          case q5h => (intro wq hSw; clear hSw; go_simp; try with_reducible rfl)
          try simp only [Act.put, List.setIfInBounds_toArray, List.set_cons_zero, List.set_cons_succ]
          refine wpAnyH_ready (rs := [7]) (by kernel_rfl) (by simp) ?_
          refine AllReadyH.cons (o := { dst := none, op := Op.store 23 (Operand.tmp 17) (Operand.tmp 16), type := 0, pos := "law.go:32", after := #[{ on := 6, ground := Ground.data }, { on := 5, ground := Ground.data }, { on := 5, ground := Ground.chain }, { on := 0, ground := Ground.phase }, { on := 1, ground := Ground.phase }, { on := 2, ground := Ground.phase }, { on := 3, ground := Ground.phase }, { on := 4, ground := Ground.phase }, { on := 5, ground := Ground.phase }], guard := none }) rfl (fun K hK => ?_) (AllReadyH.nil)
          obtain ⟨al3, cl3, rfl⟩ := own_slice (HS9.out.own 2 rfl)
          have q52 := HS9.out.at 0 rfl 0 rfl
          have f52 := HS9.out.frozen 0 rfl 0
          go_simp
          clear q52 f52
          have HS10 : Hid (DrH w C [.ob (w.heap.size) 27 (dvCells (.slice al3 (d.pages.length + 1) cl3) d (.slice a2 d.unread.length c2) (.slice a3 d.faults.length c3)), .ob B1 27 (dvCells nilS dvNil nilS nilS), .sl ((.slice al3 (d.pages.length + 1) cl3)) 9 1 (d.pages.length + 1) ((strRow d.pages) ++ ([.string s])), .sl ((.slice a2 d.unread.length c2)) 3 1 (d.unread.length) (intRow d.unread), .sl ((.slice a3 d.faults.length c3)) 29 6 (d.faults.length) (fltRow d.faults), .ob B2 9 ([.string s])] (w24.setCell ⟨(w.heap.size), 0, none⟩ (.slice al3 (d.pages.length + 1) cl3))) := (HS9.out).set 0 rfl 0 (.slice al3 (d.pages.length + 1) cl3)
          refine hK.out _ _ (trivial) (fun hHeld => ?_)
          clear hK K
          generalize (w24.setCell ⟨(w.heap.size), 0, none⟩ (.slice al3 (d.pages.length + 1) cl3)) = w25 at *
          try simp only [Act.put, List.setIfInBounds_toArray, List.set_cons_zero, List.set_cons_succ]
          refine wpAnyH_done (by kernel_rfl) ?_ _
          clear hHeld
          have HS11 : Hid (DrH w C [.ob (w.heap.size) 27 (dvCells (.slice al3 (d.pages.length + 1) cl3) d (.slice a2 d.unread.length c2) (.slice a3 d.faults.length c3)), .ob B1 27 (dvCells nilS dvNil nilS nilS), .sl ((.slice al3 (d.pages.length + 1) cl3)) 9 1 (d.pages.length + 1) ((strRow d.pages) ++ ([.string s])), .sl ((.slice a2 d.unread.length c2)) 3 1 (d.unread.length) (intRow d.unread), .sl ((.slice a3 d.faults.length c3)) 29 6 (d.faults.length) (fltRow d.faults)] w25) := HS10.out.pull [0, 1, 2, 3, 4] rfl (pull_nd HS10.out.nd [0, 1, 2, 3, 4] rfl (by decide))
          clear HS10
          have hh : ∀ wx, DrH w C [.ob (w.heap.size) 27 (dvCells (.slice al3 (d.pages.length + 1) cl3) d (.slice a2 d.unread.length c2) (.slice a3 d.faults.length c3)), .ob B1 27 (dvCells nilS dvNil nilS nilS), .sl ((.slice al3 (d.pages.length + 1) cl3)) 9 1 (d.pages.length + 1) ((strRow d.pages) ++ ([.string s])), .sl ((.slice a2 d.unread.length c2)) 3 1 (d.unread.length) (intRow d.unread), .sl ((.slice a3 d.faults.length c3)) 29 6 (d.faults.length) (fltRow d.faults)] wx → DrH w C [.ob (w.heap.size) 27 (dvCells (.slice al3 (d.pages.length + 1) cl3) (⟨d.pages ++ [s], d.writes, d.unread, d.dead, d.faults⟩ : Dv) (.slice a2 d.unread.length c2) (.slice a3 d.faults.length c3)), .ob B1 27 (dvCells nilS dvNil nilS nilS), .sl ((.slice al3 (d.pages.length + 1) cl3)) 9 1 ((⟨d.pages ++ [s], d.writes, d.unread, d.dead, d.faults⟩ : Dv).pages.length) (strRow (⟨d.pages ++ [s], d.writes, d.unread, d.dead, d.faults⟩ : Dv).pages), .sl ((.slice a2 d.unread.length c2)) 3 1 ((⟨d.pages ++ [s], d.writes, d.unread, d.dead, d.faults⟩ : Dv).unread.length) (intRow (⟨d.pages ++ [s], d.writes, d.unread, d.dead, d.faults⟩ : Dv).unread), .sl ((.slice a3 d.faults.length c3)) 29 6 ((⟨d.pages ++ [s], d.writes, d.unread, d.dead, d.faults⟩ : Dv).faults.length) (fltRow (⟨d.pages ++ [s], d.writes, d.unread, d.dead, d.faults⟩ : Dv).faults)] wx := fun wx h => by
            show DrH w C [_, _, .sl _ _ _ (d.pages ++ [s]).length (strRow (d.pages ++ [s])), _, _] wx
            rw [List.length_append, str_snoc]
            exact h
          go_wp2_with fail
          go_meet
          exact ⟨(⟨d.pages ++ [s], d.writes, d.unread, d.dead, d.faults⟩ : Dv), (.slice al3 (d.pages.length + 1) cl3), (.slice a2 d.unread.length c2), (.slice a3 d.faults.length c3), ⟨HG.out.faults, fun x hx => (List.mem_append.1 hx).elim (HG.out.pages x) (fun h => by rw [List.mem_singleton.1 h]; have := HSz.out; unfold maxLen; omega), HG.out.unread⟩, by have := HLn.out; show (d.pages ++ [s]).length ≤ 71; simp; omega, by have := HLn.out; show d.faults.length ≤ 136; omega, hh _ (HS11.out)⟩
    · skip
      go_wp2_with fail
      refine (int_m (leftIn w21 C) C _ ⟨(HS3.out).codes, Nat.le_refl _⟩).mono ?_
      rintro e w30 ⟨x, rfl, x0, x1, hb, hc⟩
      have HS30 : Hid (DrH w C [.ob (w.heap.size) 27 (dvCells (.slice a1 d.pages.length c1) d (.slice a2 d.unread.length c2) (.slice a3 d.faults.length c3)), .ob B1 27 (dvCells nilS dvNil nilS nilS), .sl ((.slice a1 d.pages.length c1)) 9 1 (d.pages.length) (strRow d.pages), .sl ((.slice a2 d.unread.length c2)) 3 1 (d.unread.length) (intRow d.unread), .sl ((.slice a3 d.faults.length c3)) 29 6 (d.faults.length) (fltRow d.faults)] w30) := (HS3.out).draws hb hc.1
      clear hb hc HS3
      have b1 : w30.cell? ⟨w.heap.size, 1, none⟩ = some (.int .i64 d.writes) := HS30.out.at 0 rfl 1 rfl
      have f1 : w30.frozen? ⟨w.heap.size, 1, none⟩ = false := HS30.out.frozen 0 rfl 1
      go_wp2_with fail
      go_meet
      exact ⟨⟨d.pages, x, d.unread, d.dead, d.faults⟩, (.slice a1 d.pages.length c1), (.slice a2 d.unread.length c2), (.slice a3 d.faults.length c3), ⟨HG.out.faults, HG.out.pages, HG.out.unread⟩, by have := HLn.out; show d.pages.length ≤ 71; omega, by have := HLn.out; show d.faults.length ≤ 136; omega, HS30.out.set 0 rfl 1 (.int .i64 x)⟩
    · skip
      go_upto_region 8 with (fail)
      have HS4 : Hid (DrH w C [.ob (w.heap.size) 27 (dvCells (.slice a1 d.pages.length c1) d (.slice a2 d.unread.length c2) (.slice a3 d.faults.length c3)), .ob B1 27 (dvCells nilS dvNil nilS nilS), .sl ((.slice a1 d.pages.length c1)) 9 1 (d.pages.length) (strRow d.pages), .sl ((.slice a2 d.unread.length c2)) 3 1 (d.unread.length) (intRow d.unread), .sl ((.slice a3 d.faults.length c3)) 29 6 (d.faults.length) (fltRow d.faults)] w21) := HS3.out
      clear HS3
      refine wp_region_held_drew (S := fun _ => True) (by kernel_rfl) (trivial) (fun hHeld => ?_)
      refine wpAnyH_take (i := 0) (oi := { dst := some 25, op := Op.fieldAddr 27 (Operand.tmp 3) 2, type := 0, pos := "law.go:36", after := #[], guard := none }) (v := ?q6v) rfl (by kernel_rfl) (by kernel_rfl) (by kernel_rfl) (fun _ _ _ h => h) (Or.inl ⟨by rfl, ?q6h⟩) hHeld ?q6r
      case q6h => (intro wq hSw; clear hSw; go_simp; try with_reducible rfl)
      try simp only [Act.put, List.setIfInBounds_toArray, List.set_cons_zero, List.set_cons_succ]
      refine wpAnyH_take (i := 2) (oi := { dst := some 27, op := Op.move (Operand.tmp 0), type := 32, pos := "law.go:36", after := #[], guard := none }) (v := ?q7v) rfl (by kernel_rfl) (by kernel_rfl) (by kernel_rfl) (fun _ _ _ h => h) (Or.inl ⟨by rfl, ?q7h⟩) hHeld ?q7r
      case q7h => (intro wq hSw; clear hSw; go_simp; try with_reducible rfl)
      try simp only [Act.put, List.setIfInBounds_toArray, List.set_cons_zero, List.set_cons_succ]
      refine wpAnyH_ready (rs := [1, 3]) (by kernel_rfl) (by simp) ?_
      refine AllReadyH.cons (o := { dst := some 26, op := Op.load 24 (Operand.tmp 25), type := 24, pos := "law.go:36", after := #[{ on := 0, ground := Ground.data }], guard := none }) rfl (fun K hK => ?_) (AllReadyH.cons (o := { dst := some 28, op := Op.call { callee := Callee.value (Operand.func 17), args := #[Operand.tmp 27, Operand.const (Value.int IntKind.i64 5)], argTypes := #[32, 3] }, type := 3, pos := "law.go:36", after := #[{ on := 2, ground := Ground.data }], guard := none }) rfl (fun K hK => ?_) (AllReadyH.nil))
      · have q41 := (HS4.out).drew.at 0 rfl 2 rfl
        go_simp
        clear q41
        have HS5 : Hid (DrH w C [.ob (w.heap.size) 27 (dvCells (.slice a1 d.pages.length c1) d (.slice a2 d.unread.length c2) (.slice a3 d.faults.length c3)), .ob B1 27 (dvCells nilS dvNil nilS nilS), .sl ((.slice a1 d.pages.length c1)) 9 1 (d.pages.length) (strRow d.pages), .sl ((.slice a2 d.unread.length c2)) 3 1 (d.unread.length) (intRow d.unread), .sl ((.slice a3 d.faults.length c3)) 29 6 (d.faults.length) (fltRow d.faults)] (w21.drew)) := (HS4.out).drew
        refine hK.out _ _ (trivial) (fun hHeld => ?_)
        clear hK K
        generalize w21.drew = w22 at *
        try simp only [Act.put, List.setIfInBounds_toArray, List.set_cons_zero, List.set_cons_succ]
        refine wpAnyH_ready (rs := [3]) (by kernel_rfl) (by simp) ?_
        refine AllReadyH.cons (o := { dst := some 28, op := Op.call { callee := Callee.value (Operand.func 17), args := #[Operand.tmp 27, Operand.const (Value.int IntKind.i64 5)], argTypes := #[32, 3] }, type := 3, pos := "law.go:36", after := #[{ on := 2, ground := Ground.data }], guard := none }) rfl (fun K hK => ?_) (AllReadyH.nil)
        go_simp
        go_wp2_with (go_at_call 17; refine (next_any C 5 _ (HS5.out).codes (by omega)).mono ?_; rintro e w23 ⟨s, rfl, s0, s1, hb, hc⟩)
        have HS6 : Hid (DrH w C [.ob (w.heap.size) 27 (dvCells (.slice a1 d.pages.length c1) d (.slice a2 d.unread.length c2) (.slice a3 d.faults.length c3)), .ob B1 27 (dvCells nilS dvNil nilS nilS), .sl ((.slice a1 d.pages.length c1)) 9 1 (d.pages.length) (strRow d.pages), .sl ((.slice a2 d.unread.length c2)) 3 1 (d.unread.length) (intRow d.unread), .sl ((.slice a3 d.faults.length c3)) 29 6 (d.faults.length) (fltRow d.faults)] w23) := (HS5.out).draws hb hc
        refine hK.out _ _ (trivial) (fun hHeld => ?_)
        clear hK K hb hc
        clear s0 s1
        try simp only [Act.put, List.setIfInBounds_toArray, List.set_cons_zero, List.set_cons_succ]
        refine wpAnyH_ready (rs := [4]) (by kernel_rfl) (by simp) ?_
        refine AllReadyH.cons (o := { dst := some 29, op := Op.buildSlice 24 1 #[(0, Operand.tmp 28)], type := 24, pos := "law.go:36", after := #[{ on := 3, ground := Ground.data }], guard := none }) rfl (fun K hK => ?_) (AllReadyH.nil)
        rw [if_pos (by rfl)]
        refine wp_build_vals rfl elem_i HUI.out [.int .i64 s] (by intro v hv; simp only [List.mem_cons, List.not_mem_nil, or_false] at hv; subst hv; rfl) (Nat.succ_pos _) (by simp only [List.length_cons, List.length_nil]; omega) rfl (by simp only [List.map_toArray, List.map_cons, List.map_nil, List.zipIdx_cons, List.zipIdx_nil]; exact rfl) ?_
        have HS7 : Hid (DrH w C [.ob (w.heap.size) 27 (dvCells (.slice a1 d.pages.length c1) d (.slice a2 d.unread.length c2) (.slice a3 d.faults.length c3)), .ob B1 27 (dvCells nilS dvNil nilS nilS), .sl ((.slice a1 d.pages.length c1)) 9 1 (d.pages.length) (strRow d.pages), .sl ((.slice a2 d.unread.length c2)) 3 1 (d.unread.length) (intRow d.unread), .sl ((.slice a3 d.faults.length c3)) 29 6 (d.faults.length) (fltRow d.faults), .ob (w23.heap.size) 3 ([.int .i64 s])] (w23.alloc (.cells ([.int .i64 s]).toArray 3))) := (HS6.out).put 3 ([.int .i64 s])
        refine hK.out _ _ (trivial) (fun hHeld => ?_)
        clear hK K
        generalize (w23.alloc (.cells ([.int .i64 s]).toArray 3)) = w24 at *
        generalize w23.heap.size = B2 at *
        try simp only [Act.put, List.setIfInBounds_toArray, List.set_cons_zero, List.set_cons_succ]
        refine wpAnyH_ready (rs := [5]) (by kernel_rfl) (by simp) ?_
        refine AllReadyH.cons (o := { dst := some 30, op := Op.call { callee := Callee.builtin Builtin.append, args := #[Operand.tmp 26, Operand.tmp 29], argTypes := #[24, 24] }, type := 24, pos := "law.go:36", after := #[{ on := 1, ground := Ground.data }, { on := 4, ground := Ground.data }, { on := 3, ground := Ground.chain }], guard := none }) rfl (fun K hK => ?_) (AllReadyH.nil)
        rw [if_pos (by rfl)]
        refine wp_append_dr (HS7.out) (.tmp 26) (.tmp 29) 24 rfl 3 rfl 5 rfl HUI.out elem_i 1 1 rfl rfl rfl (by intro u hu; rw [List.mem_singleton.1 hu]; rfl) (by have := HLn.out; omega) ?_
        intro v25 w25 hs hnil
        have HS9 : Hid (DrH w C [.ob (w.heap.size) 27 (dvCells (.slice a1 d.pages.length c1) d (.slice a2 d.unread.length c2) (.slice a3 d.faults.length c3)), .ob B1 27 (dvCells nilS dvNil nilS nilS), .sl ((.slice a1 d.pages.length c1)) 9 1 (d.pages.length) (strRow d.pages), .sl v25 3 1 (d.unread.length + 1) ((intRow d.unread) ++ ([.int .i64 s])), .sl ((.slice a3 d.faults.length c3)) 29 6 (d.faults.length) (fltRow d.faults), .ob B2 3 ([.int .i64 s])] w25) := hs
        refine hK.out _ _ (trivial) (fun hHeld => ?_)
        clear hK K hs
        try simp only [Act.put, List.setIfInBounds_toArray, List.set_cons_zero, List.set_cons_succ]
        refine wpAnyH_take (i := 6) (oi := { dst := some 31, op := Op.fieldAddr 27 (Operand.tmp 3) 2, type := 0, pos := "law.go:36", after := #[{ on := 0, ground := Ground.phase }, { on := 1, ground := Ground.phase }, { on := 2, ground := Ground.phase }, { on := 3, ground := Ground.phase }, { on := 4, ground := Ground.phase }, { on := 5, ground := Ground.phase }], guard := none }) (v := ?q8v) rfl (by kernel_rfl) (by kernel_rfl) (by kernel_rfl) (fun _ _ _ h => h) (Or.inl ⟨by rfl, ?q8h⟩) hHeld ?q8r
        case q8h => (intro wq hSw; clear hSw; go_simp; try with_reducible rfl)
        try simp only [Act.put, List.setIfInBounds_toArray, List.set_cons_zero, List.set_cons_succ]
        refine wpAnyH_ready (rs := [7]) (by kernel_rfl) (by simp) ?_
        refine AllReadyH.cons (o := { dst := none, op := Op.store 24 (Operand.tmp 31) (Operand.tmp 30), type := 0, pos := "law.go:36", after := #[{ on := 6, ground := Ground.data }, { on := 5, ground := Ground.data }, { on := 5, ground := Ground.chain }, { on := 0, ground := Ground.phase }, { on := 1, ground := Ground.phase }, { on := 2, ground := Ground.phase }, { on := 3, ground := Ground.phase }, { on := 4, ground := Ground.phase }, { on := 5, ground := Ground.phase }], guard := none }) rfl (fun K hK => ?_) (AllReadyH.nil)
        obtain ⟨al3, cl3, rfl⟩ := own_slice (HS9.out.own 3 rfl)
        have q52 := HS9.out.at 0 rfl 2 rfl
        have f52 := HS9.out.frozen 0 rfl 2
        go_simp
        clear q52 f52
        have HS10 : Hid (DrH w C [.ob (w.heap.size) 27 (dvCells (.slice a1 d.pages.length c1) d (.slice al3 (d.unread.length + 1) cl3) (.slice a3 d.faults.length c3)), .ob B1 27 (dvCells nilS dvNil nilS nilS), .sl ((.slice a1 d.pages.length c1)) 9 1 (d.pages.length) (strRow d.pages), .sl ((.slice al3 (d.unread.length + 1) cl3)) 3 1 (d.unread.length + 1) ((intRow d.unread) ++ ([.int .i64 s])), .sl ((.slice a3 d.faults.length c3)) 29 6 (d.faults.length) (fltRow d.faults), .ob B2 3 ([.int .i64 s])] (w25.setCell ⟨(w.heap.size), 2, none⟩ (.slice al3 (d.unread.length + 1) cl3))) := (HS9.out).set 0 rfl 2 (.slice al3 (d.unread.length + 1) cl3)
        refine hK.out _ _ (trivial) (fun hHeld => ?_)
        clear hK K
        generalize (w25.setCell ⟨(w.heap.size), 2, none⟩ (.slice al3 (d.unread.length + 1) cl3)) = w26 at *
        try simp only [Act.put, List.setIfInBounds_toArray, List.set_cons_zero, List.set_cons_succ]
        refine wpAnyH_done (by kernel_rfl) ?_ _
        clear hHeld
        have HS11 : Hid (DrH w C [.ob (w.heap.size) 27 (dvCells (.slice a1 d.pages.length c1) d (.slice al3 (d.unread.length + 1) cl3) (.slice a3 d.faults.length c3)), .ob B1 27 (dvCells nilS dvNil nilS nilS), .sl ((.slice a1 d.pages.length c1)) 9 1 (d.pages.length) (strRow d.pages), .sl ((.slice al3 (d.unread.length + 1) cl3)) 3 1 (d.unread.length + 1) ((intRow d.unread) ++ ([.int .i64 s])), .sl ((.slice a3 d.faults.length c3)) 29 6 (d.faults.length) (fltRow d.faults)] w26) := HS10.out.pull [0, 1, 2, 3, 4] rfl (pull_nd HS10.out.nd [0, 1, 2, 3, 4] rfl (by decide))
        clear HS10
        have hh : ∀ wx, DrH w C [.ob (w.heap.size) 27 (dvCells (.slice a1 d.pages.length c1) d (.slice al3 (d.unread.length + 1) cl3) (.slice a3 d.faults.length c3)), .ob B1 27 (dvCells nilS dvNil nilS nilS), .sl ((.slice a1 d.pages.length c1)) 9 1 (d.pages.length) (strRow d.pages), .sl ((.slice al3 (d.unread.length + 1) cl3)) 3 1 (d.unread.length + 1) ((intRow d.unread) ++ ([.int .i64 s])), .sl ((.slice a3 d.faults.length c3)) 29 6 (d.faults.length) (fltRow d.faults)] wx → DrH w C [.ob (w.heap.size) 27 (dvCells (.slice a1 d.pages.length c1) (⟨d.pages, d.writes, d.unread ++ [s], d.dead, d.faults⟩ : Dv) (.slice al3 (d.unread.length + 1) cl3) (.slice a3 d.faults.length c3)), .ob B1 27 (dvCells nilS dvNil nilS nilS), .sl ((.slice a1 d.pages.length c1)) 9 1 ((⟨d.pages, d.writes, d.unread ++ [s], d.dead, d.faults⟩ : Dv).pages.length) (strRow (⟨d.pages, d.writes, d.unread ++ [s], d.dead, d.faults⟩ : Dv).pages), .sl ((.slice al3 (d.unread.length + 1) cl3)) 3 1 ((⟨d.pages, d.writes, d.unread ++ [s], d.dead, d.faults⟩ : Dv).unread.length) (intRow (⟨d.pages, d.writes, d.unread ++ [s], d.dead, d.faults⟩ : Dv).unread), .sl ((.slice a3 d.faults.length c3)) 29 6 ((⟨d.pages, d.writes, d.unread ++ [s], d.dead, d.faults⟩ : Dv).faults.length) (fltRow (⟨d.pages, d.writes, d.unread ++ [s], d.dead, d.faults⟩ : Dv).faults)] wx := fun wx h => by
          show DrH w C [_, _, _, .sl _ _ _ (d.unread ++ [s]).length (intRow (d.unread ++ [s])), _] wx
          rw [List.length_append, int_snoc]
          exact h
        go_wp2_with fail
        go_meet
        exact ⟨(⟨d.pages, d.writes, d.unread ++ [s], d.dead, d.faults⟩ : Dv), (.slice a1 d.pages.length c1), (.slice al3 (d.unread.length + 1) cl3), (.slice a3 d.faults.length c3), ⟨HG.out.faults, HG.out.pages, by have := HLn.out; show (d.unread ++ [s]).length ≤ 1000; simp; omega⟩, by have := HLn.out; show d.pages.length ≤ 71; omega, by have := HLn.out; show d.faults.length ≤ 136; omega, hh _ (HS11.out)⟩
      · go_simp
        go_wp2_with (go_at_call 17; refine (next_any C 5 _ ((HS4.out).drew).codes (by omega)).mono ?_; rintro e w22 ⟨s, rfl, s0, s1, hb, hc⟩)
        have HS5 : Hid (DrH w C [.ob (w.heap.size) 27 (dvCells (.slice a1 d.pages.length c1) d (.slice a2 d.unread.length c2) (.slice a3 d.faults.length c3)), .ob B1 27 (dvCells nilS dvNil nilS nilS), .sl ((.slice a1 d.pages.length c1)) 9 1 (d.pages.length) (strRow d.pages), .sl ((.slice a2 d.unread.length c2)) 3 1 (d.unread.length) (intRow d.unread), .sl ((.slice a3 d.faults.length c3)) 29 6 (d.faults.length) (fltRow d.faults)] w22) := ((HS4.out).drew).draws hb hc
        refine hK.out _ _ (trivial) (fun hHeld => ?_)
        clear hK K hb hc
        clear s0 s1
        try simp only [Act.put, List.setIfInBounds_toArray, List.set_cons_zero, List.set_cons_succ]
        refine wpAnyH_ready (rs := [1, 4]) (by kernel_rfl) (by simp) ?_
        refine AllReadyH.cons (o := { dst := some 26, op := Op.load 24 (Operand.tmp 25), type := 24, pos := "law.go:36", after := #[{ on := 0, ground := Ground.data }], guard := none }) rfl (fun K hK => ?_) (AllReadyH.cons (o := { dst := some 29, op := Op.buildSlice 24 1 #[(0, Operand.tmp 28)], type := 24, pos := "law.go:36", after := #[{ on := 3, ground := Ground.data }], guard := none }) rfl (fun K hK => ?_) (AllReadyH.nil))
        · have q41 := HS5.out.at 0 rfl 2 rfl
          go_simp
          clear q41
          have HS6 : Hid (DrH w C [.ob (w.heap.size) 27 (dvCells (.slice a1 d.pages.length c1) d (.slice a2 d.unread.length c2) (.slice a3 d.faults.length c3)), .ob B1 27 (dvCells nilS dvNil nilS nilS), .sl ((.slice a1 d.pages.length c1)) 9 1 (d.pages.length) (strRow d.pages), .sl ((.slice a2 d.unread.length c2)) 3 1 (d.unread.length) (intRow d.unread), .sl ((.slice a3 d.faults.length c3)) 29 6 (d.faults.length) (fltRow d.faults)] w22) := HS5.out
          refine hK.out _ _ (trivial) (fun hHeld => ?_)
          clear hK K
          try simp only [Act.put, List.setIfInBounds_toArray, List.set_cons_zero, List.set_cons_succ]
          refine wpAnyH_ready (rs := [4]) (by kernel_rfl) (by simp) ?_
          refine AllReadyH.cons (o := { dst := some 29, op := Op.buildSlice 24 1 #[(0, Operand.tmp 28)], type := 24, pos := "law.go:36", after := #[{ on := 3, ground := Ground.data }], guard := none }) rfl (fun K hK => ?_) (AllReadyH.nil)
          rw [if_pos (by rfl)]
          refine wp_build_vals rfl elem_i HUI.out [.int .i64 s] (by intro v hv; simp only [List.mem_cons, List.not_mem_nil, or_false] at hv; subst hv; rfl) (Nat.succ_pos _) (by simp only [List.length_cons, List.length_nil]; omega) rfl (by simp only [List.map_toArray, List.map_cons, List.map_nil, List.zipIdx_cons, List.zipIdx_nil]; exact rfl) ?_
          have HS7 : Hid (DrH w C [.ob (w.heap.size) 27 (dvCells (.slice a1 d.pages.length c1) d (.slice a2 d.unread.length c2) (.slice a3 d.faults.length c3)), .ob B1 27 (dvCells nilS dvNil nilS nilS), .sl ((.slice a1 d.pages.length c1)) 9 1 (d.pages.length) (strRow d.pages), .sl ((.slice a2 d.unread.length c2)) 3 1 (d.unread.length) (intRow d.unread), .sl ((.slice a3 d.faults.length c3)) 29 6 (d.faults.length) (fltRow d.faults), .ob (w22.heap.size) 3 ([.int .i64 s])] (w22.alloc (.cells ([.int .i64 s]).toArray 3))) := (HS6.out).put 3 ([.int .i64 s])
          refine hK.out _ _ (trivial) (fun hHeld => ?_)
          clear hK K
          generalize (w22.alloc (.cells ([.int .i64 s]).toArray 3)) = w23 at *
          generalize w22.heap.size = B2 at *
          try simp only [Act.put, List.setIfInBounds_toArray, List.set_cons_zero, List.set_cons_succ]
          refine wpAnyH_ready (rs := [5]) (by kernel_rfl) (by simp) ?_
          refine AllReadyH.cons (o := { dst := some 30, op := Op.call { callee := Callee.builtin Builtin.append, args := #[Operand.tmp 26, Operand.tmp 29], argTypes := #[24, 24] }, type := 24, pos := "law.go:36", after := #[{ on := 1, ground := Ground.data }, { on := 4, ground := Ground.data }, { on := 3, ground := Ground.chain }], guard := none }) rfl (fun K hK => ?_) (AllReadyH.nil)
          rw [if_pos (by rfl)]
          refine wp_append_dr (HS7.out) (.tmp 26) (.tmp 29) 24 rfl 3 rfl 5 rfl HUI.out elem_i 1 1 rfl rfl rfl (by intro u hu; rw [List.mem_singleton.1 hu]; rfl) (by have := HLn.out; omega) ?_
          intro v24 w24 hs hnil
          have HS9 : Hid (DrH w C [.ob (w.heap.size) 27 (dvCells (.slice a1 d.pages.length c1) d (.slice a2 d.unread.length c2) (.slice a3 d.faults.length c3)), .ob B1 27 (dvCells nilS dvNil nilS nilS), .sl ((.slice a1 d.pages.length c1)) 9 1 (d.pages.length) (strRow d.pages), .sl v24 3 1 (d.unread.length + 1) ((intRow d.unread) ++ ([.int .i64 s])), .sl ((.slice a3 d.faults.length c3)) 29 6 (d.faults.length) (fltRow d.faults), .ob B2 3 ([.int .i64 s])] w24) := hs
          refine hK.out _ _ (trivial) (fun hHeld => ?_)
          clear hK K hs
          try simp only [Act.put, List.setIfInBounds_toArray, List.set_cons_zero, List.set_cons_succ]
          refine wpAnyH_take (i := 6) (oi := { dst := some 31, op := Op.fieldAddr 27 (Operand.tmp 3) 2, type := 0, pos := "law.go:36", after := #[{ on := 0, ground := Ground.phase }, { on := 1, ground := Ground.phase }, { on := 2, ground := Ground.phase }, { on := 3, ground := Ground.phase }, { on := 4, ground := Ground.phase }, { on := 5, ground := Ground.phase }], guard := none }) (v := ?q9v) rfl (by kernel_rfl) (by kernel_rfl) (by kernel_rfl) (fun _ _ _ h => h) (Or.inl ⟨by rfl, ?q9h⟩) hHeld ?q9r
          case q9h => (intro wq hSw; clear hSw; go_simp; try with_reducible rfl)
          try simp only [Act.put, List.setIfInBounds_toArray, List.set_cons_zero, List.set_cons_succ]
          refine wpAnyH_ready (rs := [7]) (by kernel_rfl) (by simp) ?_
          refine AllReadyH.cons (o := { dst := none, op := Op.store 24 (Operand.tmp 31) (Operand.tmp 30), type := 0, pos := "law.go:36", after := #[{ on := 6, ground := Ground.data }, { on := 5, ground := Ground.data }, { on := 5, ground := Ground.chain }, { on := 0, ground := Ground.phase }, { on := 1, ground := Ground.phase }, { on := 2, ground := Ground.phase }, { on := 3, ground := Ground.phase }, { on := 4, ground := Ground.phase }, { on := 5, ground := Ground.phase }], guard := none }) rfl (fun K hK => ?_) (AllReadyH.nil)
          obtain ⟨al3, cl3, rfl⟩ := own_slice (HS9.out.own 3 rfl)
          have q52 := HS9.out.at 0 rfl 2 rfl
          have f52 := HS9.out.frozen 0 rfl 2
          go_simp
          clear q52 f52
          have HS10 : Hid (DrH w C [.ob (w.heap.size) 27 (dvCells (.slice a1 d.pages.length c1) d (.slice al3 (d.unread.length + 1) cl3) (.slice a3 d.faults.length c3)), .ob B1 27 (dvCells nilS dvNil nilS nilS), .sl ((.slice a1 d.pages.length c1)) 9 1 (d.pages.length) (strRow d.pages), .sl ((.slice al3 (d.unread.length + 1) cl3)) 3 1 (d.unread.length + 1) ((intRow d.unread) ++ ([.int .i64 s])), .sl ((.slice a3 d.faults.length c3)) 29 6 (d.faults.length) (fltRow d.faults), .ob B2 3 ([.int .i64 s])] (w24.setCell ⟨(w.heap.size), 2, none⟩ (.slice al3 (d.unread.length + 1) cl3))) := (HS9.out).set 0 rfl 2 (.slice al3 (d.unread.length + 1) cl3)
          refine hK.out _ _ (trivial) (fun hHeld => ?_)
          clear hK K
          generalize (w24.setCell ⟨(w.heap.size), 2, none⟩ (.slice al3 (d.unread.length + 1) cl3)) = w25 at *
          try simp only [Act.put, List.setIfInBounds_toArray, List.set_cons_zero, List.set_cons_succ]
          refine wpAnyH_done (by kernel_rfl) ?_ _
          clear hHeld
          have HS11 : Hid (DrH w C [.ob (w.heap.size) 27 (dvCells (.slice a1 d.pages.length c1) d (.slice al3 (d.unread.length + 1) cl3) (.slice a3 d.faults.length c3)), .ob B1 27 (dvCells nilS dvNil nilS nilS), .sl ((.slice a1 d.pages.length c1)) 9 1 (d.pages.length) (strRow d.pages), .sl ((.slice al3 (d.unread.length + 1) cl3)) 3 1 (d.unread.length + 1) ((intRow d.unread) ++ ([.int .i64 s])), .sl ((.slice a3 d.faults.length c3)) 29 6 (d.faults.length) (fltRow d.faults)] w25) := HS10.out.pull [0, 1, 2, 3, 4] rfl (pull_nd HS10.out.nd [0, 1, 2, 3, 4] rfl (by decide))
          clear HS10
          have hh : ∀ wx, DrH w C [.ob (w.heap.size) 27 (dvCells (.slice a1 d.pages.length c1) d (.slice al3 (d.unread.length + 1) cl3) (.slice a3 d.faults.length c3)), .ob B1 27 (dvCells nilS dvNil nilS nilS), .sl ((.slice a1 d.pages.length c1)) 9 1 (d.pages.length) (strRow d.pages), .sl ((.slice al3 (d.unread.length + 1) cl3)) 3 1 (d.unread.length + 1) ((intRow d.unread) ++ ([.int .i64 s])), .sl ((.slice a3 d.faults.length c3)) 29 6 (d.faults.length) (fltRow d.faults)] wx → DrH w C [.ob (w.heap.size) 27 (dvCells (.slice a1 d.pages.length c1) (⟨d.pages, d.writes, d.unread ++ [s], d.dead, d.faults⟩ : Dv) (.slice al3 (d.unread.length + 1) cl3) (.slice a3 d.faults.length c3)), .ob B1 27 (dvCells nilS dvNil nilS nilS), .sl ((.slice a1 d.pages.length c1)) 9 1 ((⟨d.pages, d.writes, d.unread ++ [s], d.dead, d.faults⟩ : Dv).pages.length) (strRow (⟨d.pages, d.writes, d.unread ++ [s], d.dead, d.faults⟩ : Dv).pages), .sl ((.slice al3 (d.unread.length + 1) cl3)) 3 1 ((⟨d.pages, d.writes, d.unread ++ [s], d.dead, d.faults⟩ : Dv).unread.length) (intRow (⟨d.pages, d.writes, d.unread ++ [s], d.dead, d.faults⟩ : Dv).unread), .sl ((.slice a3 d.faults.length c3)) 29 6 ((⟨d.pages, d.writes, d.unread ++ [s], d.dead, d.faults⟩ : Dv).faults.length) (fltRow (⟨d.pages, d.writes, d.unread ++ [s], d.dead, d.faults⟩ : Dv).faults)] wx := fun wx h => by
            show DrH w C [_, _, _, .sl _ _ _ (d.unread ++ [s]).length (intRow (d.unread ++ [s])), _] wx
            rw [List.length_append, int_snoc]
            exact h
          go_wp2_with fail
          go_meet
          exact ⟨(⟨d.pages, d.writes, d.unread ++ [s], d.dead, d.faults⟩ : Dv), (.slice a1 d.pages.length c1), (.slice al3 (d.unread.length + 1) cl3), (.slice a3 d.faults.length c3), ⟨HG.out.faults, HG.out.pages, by have := HLn.out; show (d.unread ++ [s]).length ≤ 1000; simp; omega⟩, by have := HLn.out; show d.pages.length ≤ 71; omega, by have := HLn.out; show d.faults.length ≤ 136; omega, hh _ (HS11.out)⟩
        · rw [if_pos (by rfl)]
          refine wp_build_vals rfl elem_i HUI.out [.int .i64 s] (by intro v hv; simp only [List.mem_cons, List.not_mem_nil, or_false] at hv; subst hv; rfl) (Nat.succ_pos _) (by simp only [List.length_cons, List.length_nil]; omega) rfl (by simp only [List.map_toArray, List.map_cons, List.map_nil, List.zipIdx_cons, List.zipIdx_nil]; exact rfl) ?_
          have HS6 : Hid (DrH w C [.ob (w.heap.size) 27 (dvCells (.slice a1 d.pages.length c1) d (.slice a2 d.unread.length c2) (.slice a3 d.faults.length c3)), .ob B1 27 (dvCells nilS dvNil nilS nilS), .sl ((.slice a1 d.pages.length c1)) 9 1 (d.pages.length) (strRow d.pages), .sl ((.slice a2 d.unread.length c2)) 3 1 (d.unread.length) (intRow d.unread), .sl ((.slice a3 d.faults.length c3)) 29 6 (d.faults.length) (fltRow d.faults), .ob (w22.heap.size) 3 ([.int .i64 s])] (w22.alloc (.cells ([.int .i64 s]).toArray 3))) := (HS5.out).put 3 ([.int .i64 s])
          refine hK.out _ _ (trivial) (fun hHeld => ?_)
          clear hK K
          generalize (w22.alloc (.cells ([.int .i64 s]).toArray 3)) = w23 at *
          generalize w22.heap.size = B2 at *
          try simp only [Act.put, List.setIfInBounds_toArray, List.set_cons_zero, List.set_cons_succ]
          refine wpAnyH_ready (rs := [1]) (by kernel_rfl) (by simp) ?_
          refine AllReadyH.cons (o := { dst := some 26, op := Op.load 24 (Operand.tmp 25), type := 24, pos := "law.go:36", after := #[{ on := 0, ground := Ground.data }], guard := none }) rfl (fun K hK => ?_) (AllReadyH.nil)
          have q41 := HS6.out.at 0 rfl 2 rfl
          go_simp
          clear q41
          have HS7 : Hid (DrH w C [.ob (w.heap.size) 27 (dvCells (.slice a1 d.pages.length c1) d (.slice a2 d.unread.length c2) (.slice a3 d.faults.length c3)), .ob B1 27 (dvCells nilS dvNil nilS nilS), .sl ((.slice a1 d.pages.length c1)) 9 1 (d.pages.length) (strRow d.pages), .sl ((.slice a2 d.unread.length c2)) 3 1 (d.unread.length) (intRow d.unread), .sl ((.slice a3 d.faults.length c3)) 29 6 (d.faults.length) (fltRow d.faults), .ob B2 3 ([.int .i64 s])] w23) := HS6.out
          refine hK.out _ _ (trivial) (fun hHeld => ?_)
          clear hK K
          try simp only [Act.put, List.setIfInBounds_toArray, List.set_cons_zero, List.set_cons_succ]
          refine wpAnyH_ready (rs := [5]) (by kernel_rfl) (by simp) ?_
          refine AllReadyH.cons (o := { dst := some 30, op := Op.call { callee := Callee.builtin Builtin.append, args := #[Operand.tmp 26, Operand.tmp 29], argTypes := #[24, 24] }, type := 24, pos := "law.go:36", after := #[{ on := 1, ground := Ground.data }, { on := 4, ground := Ground.data }, { on := 3, ground := Ground.chain }], guard := none }) rfl (fun K hK => ?_) (AllReadyH.nil)
          rw [if_pos (by rfl)]
          refine wp_append_dr (HS7.out) (.tmp 26) (.tmp 29) 24 rfl 3 rfl 5 rfl HUI.out elem_i 1 1 rfl rfl rfl (by intro u hu; rw [List.mem_singleton.1 hu]; rfl) (by have := HLn.out; omega) ?_
          intro v24 w24 hs hnil
          have HS9 : Hid (DrH w C [.ob (w.heap.size) 27 (dvCells (.slice a1 d.pages.length c1) d (.slice a2 d.unread.length c2) (.slice a3 d.faults.length c3)), .ob B1 27 (dvCells nilS dvNil nilS nilS), .sl ((.slice a1 d.pages.length c1)) 9 1 (d.pages.length) (strRow d.pages), .sl v24 3 1 (d.unread.length + 1) ((intRow d.unread) ++ ([.int .i64 s])), .sl ((.slice a3 d.faults.length c3)) 29 6 (d.faults.length) (fltRow d.faults), .ob B2 3 ([.int .i64 s])] w24) := hs
          refine hK.out _ _ (trivial) (fun hHeld => ?_)
          clear hK K hs
          try simp only [Act.put, List.setIfInBounds_toArray, List.set_cons_zero, List.set_cons_succ]
          refine wpAnyH_take (i := 6) (oi := { dst := some 31, op := Op.fieldAddr 27 (Operand.tmp 3) 2, type := 0, pos := "law.go:36", after := #[{ on := 0, ground := Ground.phase }, { on := 1, ground := Ground.phase }, { on := 2, ground := Ground.phase }, { on := 3, ground := Ground.phase }, { on := 4, ground := Ground.phase }, { on := 5, ground := Ground.phase }], guard := none }) (v := ?q10v) rfl (by kernel_rfl) (by kernel_rfl) (by kernel_rfl) (fun _ _ _ h => h) (Or.inl ⟨by rfl, ?q10h⟩) hHeld ?q10r
          case q10h => (intro wq hSw; clear hSw; go_simp; try with_reducible rfl)
          try simp only [Act.put, List.setIfInBounds_toArray, List.set_cons_zero, List.set_cons_succ]
          refine wpAnyH_ready (rs := [7]) (by kernel_rfl) (by simp) ?_
          refine AllReadyH.cons (o := { dst := none, op := Op.store 24 (Operand.tmp 31) (Operand.tmp 30), type := 0, pos := "law.go:36", after := #[{ on := 6, ground := Ground.data }, { on := 5, ground := Ground.data }, { on := 5, ground := Ground.chain }, { on := 0, ground := Ground.phase }, { on := 1, ground := Ground.phase }, { on := 2, ground := Ground.phase }, { on := 3, ground := Ground.phase }, { on := 4, ground := Ground.phase }, { on := 5, ground := Ground.phase }], guard := none }) rfl (fun K hK => ?_) (AllReadyH.nil)
          obtain ⟨al3, cl3, rfl⟩ := own_slice (HS9.out.own 3 rfl)
          have q52 := HS9.out.at 0 rfl 2 rfl
          have f52 := HS9.out.frozen 0 rfl 2
          go_simp
          clear q52 f52
          have HS10 : Hid (DrH w C [.ob (w.heap.size) 27 (dvCells (.slice a1 d.pages.length c1) d (.slice al3 (d.unread.length + 1) cl3) (.slice a3 d.faults.length c3)), .ob B1 27 (dvCells nilS dvNil nilS nilS), .sl ((.slice a1 d.pages.length c1)) 9 1 (d.pages.length) (strRow d.pages), .sl ((.slice al3 (d.unread.length + 1) cl3)) 3 1 (d.unread.length + 1) ((intRow d.unread) ++ ([.int .i64 s])), .sl ((.slice a3 d.faults.length c3)) 29 6 (d.faults.length) (fltRow d.faults), .ob B2 3 ([.int .i64 s])] (w24.setCell ⟨(w.heap.size), 2, none⟩ (.slice al3 (d.unread.length + 1) cl3))) := (HS9.out).set 0 rfl 2 (.slice al3 (d.unread.length + 1) cl3)
          refine hK.out _ _ (trivial) (fun hHeld => ?_)
          clear hK K
          generalize (w24.setCell ⟨(w.heap.size), 2, none⟩ (.slice al3 (d.unread.length + 1) cl3)) = w25 at *
          try simp only [Act.put, List.setIfInBounds_toArray, List.set_cons_zero, List.set_cons_succ]
          refine wpAnyH_done (by kernel_rfl) ?_ _
          clear hHeld
          have HS11 : Hid (DrH w C [.ob (w.heap.size) 27 (dvCells (.slice a1 d.pages.length c1) d (.slice al3 (d.unread.length + 1) cl3) (.slice a3 d.faults.length c3)), .ob B1 27 (dvCells nilS dvNil nilS nilS), .sl ((.slice a1 d.pages.length c1)) 9 1 (d.pages.length) (strRow d.pages), .sl ((.slice al3 (d.unread.length + 1) cl3)) 3 1 (d.unread.length + 1) ((intRow d.unread) ++ ([.int .i64 s])), .sl ((.slice a3 d.faults.length c3)) 29 6 (d.faults.length) (fltRow d.faults)] w25) := HS10.out.pull [0, 1, 2, 3, 4] rfl (pull_nd HS10.out.nd [0, 1, 2, 3, 4] rfl (by decide))
          clear HS10
          have hh : ∀ wx, DrH w C [.ob (w.heap.size) 27 (dvCells (.slice a1 d.pages.length c1) d (.slice al3 (d.unread.length + 1) cl3) (.slice a3 d.faults.length c3)), .ob B1 27 (dvCells nilS dvNil nilS nilS), .sl ((.slice a1 d.pages.length c1)) 9 1 (d.pages.length) (strRow d.pages), .sl ((.slice al3 (d.unread.length + 1) cl3)) 3 1 (d.unread.length + 1) ((intRow d.unread) ++ ([.int .i64 s])), .sl ((.slice a3 d.faults.length c3)) 29 6 (d.faults.length) (fltRow d.faults)] wx → DrH w C [.ob (w.heap.size) 27 (dvCells (.slice a1 d.pages.length c1) (⟨d.pages, d.writes, d.unread ++ [s], d.dead, d.faults⟩ : Dv) (.slice al3 (d.unread.length + 1) cl3) (.slice a3 d.faults.length c3)), .ob B1 27 (dvCells nilS dvNil nilS nilS), .sl ((.slice a1 d.pages.length c1)) 9 1 ((⟨d.pages, d.writes, d.unread ++ [s], d.dead, d.faults⟩ : Dv).pages.length) (strRow (⟨d.pages, d.writes, d.unread ++ [s], d.dead, d.faults⟩ : Dv).pages), .sl ((.slice al3 (d.unread.length + 1) cl3)) 3 1 ((⟨d.pages, d.writes, d.unread ++ [s], d.dead, d.faults⟩ : Dv).unread.length) (intRow (⟨d.pages, d.writes, d.unread ++ [s], d.dead, d.faults⟩ : Dv).unread), .sl ((.slice a3 d.faults.length c3)) 29 6 ((⟨d.pages, d.writes, d.unread ++ [s], d.dead, d.faults⟩ : Dv).faults.length) (fltRow (⟨d.pages, d.writes, d.unread ++ [s], d.dead, d.faults⟩ : Dv).faults)] wx := fun wx h => by
            show DrH w C [_, _, _, .sl _ _ _ (d.unread ++ [s]).length (intRow (d.unread ++ [s])), _] wx
            rw [List.length_append, int_snoc]
            exact h
          go_wp2_with fail
          go_meet
          exact ⟨(⟨d.pages, d.writes, d.unread ++ [s], d.dead, d.faults⟩ : Dv), (.slice a1 d.pages.length c1), (.slice al3 (d.unread.length + 1) cl3), (.slice a3 d.faults.length c3), ⟨HG.out.faults, HG.out.pages, by have := HLn.out; show (d.unread ++ [s]).length ≤ 1000; simp; omega⟩, by have := HLn.out; show d.pages.length ≤ 71; omega, by have := HLn.out; show d.faults.length ≤ 136; omega, hh _ (HS11.out)⟩
    · skip
      have b3 : w21.cell? ⟨w.heap.size, 3, none⟩ = some (.bool d.dead) := (HS3.out).at 0 rfl 3 rfl
      have f3 : w21.frozen? ⟨w.heap.size, 3, none⟩ = false := (HS3.out).frozen 0 rfl 3
      go_wp2_with fail
      go_meet
      exact ⟨⟨d.pages, d.writes, d.unread, !d.dead, d.faults⟩, (.slice a1 d.pages.length c1), (.slice a2 d.unread.length c2), (.slice a3 d.faults.length c3), ⟨HG.out.faults, HG.out.pages, HG.out.unread⟩, by have := HLn.out; show d.pages.length ≤ 71; omega, by have := HLn.out; show d.faults.length ≤ 136; omega, (HS3.out).set 0 rfl 3 (.bool (!d.dead))⟩
    · skip
      have HPl : Hid ((d.pages.length : Int) ≤ 256) := Lib.hid (by have := HLn.out; omega)
      go_upto_region 12 with (fail)
      have HS4 : Hid (DrH w C [.ob (w.heap.size) 27 (dvCells (.slice a1 d.pages.length c1) d (.slice a2 d.unread.length c2) (.slice a3 d.faults.length c3)), .ob B1 27 (dvCells nilS dvNil nilS nilS), .sl ((.slice a1 d.pages.length c1)) 9 1 (d.pages.length) (strRow d.pages), .sl ((.slice a2 d.unread.length c2)) 3 1 (d.unread.length) (intRow d.unread), .sl ((.slice a3 d.faults.length c3)) 29 6 (d.faults.length) (fltRow d.faults)] w21) := HS3.out
      clear HS3
      refine wp_region_held_drew (S := fun w' => w'.cell? ⟨w.heap.size, 0, none⟩ = some (.slice a1 d.pages.length c1) ∧ w'.cell? ⟨w.heap.size, 1, none⟩ = some (.int .i64 d.writes)) (by kernel_rfl) (⟨(HS4.out).drew.at 0 rfl 0 rfl, (HS4.out).drew.at 0 rfl 1 rfl⟩) (fun hHeld => ?_)
      refine wpAnyH_take (i := 0) (oi := { dst := some 40, op := Op.fieldAddr 27 (Operand.tmp 3) 4, type := 0, pos := "law.go:40", after := #[], guard := none }) (v := ?q11v) rfl (by kernel_rfl) (by kernel_rfl) (by kernel_rfl) (fun _ _ _ h => h) (Or.inl ⟨by rfl, ?q11h⟩) hHeld ?q11r
      case q11h => (intro wq hSw; clear hSw; go_simp; try with_reducible rfl)
      try simp only [Act.put, List.setIfInBounds_toArray, List.set_cons_zero, List.set_cons_succ]
      refine wpAnyH_take (i := 2) (oi := { dst := some 42, op := Op.move (Operand.tmp 0), type := 32, pos := "law.go:40", after := #[], guard := none }) (v := ?q12v) rfl (by kernel_rfl) (by kernel_rfl) (by kernel_rfl) (fun _ _ _ h => h) (Or.inl ⟨by rfl, ?q12h⟩) hHeld ?q12r
      case q12h => (intro wq hSw; clear hSw; go_simp; try with_reducible rfl)
      try simp only [Act.put, List.setIfInBounds_toArray, List.set_cons_zero, List.set_cons_succ]
      refine wpAnyH_take (i := 3) (oi := { dst := some 43, op := Op.fieldAddr 27 (Operand.tmp 3) 0, type := 0, pos := "law.go:40", after := #[], guard := none }) (v := ?q13v) rfl (by kernel_rfl) (by kernel_rfl) (by kernel_rfl) (fun _ _ _ h => h) (Or.inl ⟨by rfl, ?q13h⟩) hHeld ?q13r
      case q13h => (intro wq hSw; clear hSw; go_simp; try with_reducible rfl)
      try simp only [Act.put, List.setIfInBounds_toArray, List.set_cons_zero, List.set_cons_succ]
      refine wpAnyH_take (i := 4) (oi := { dst := some 44, op := Op.load 23 (Operand.tmp 43), type := 23, pos := "law.go:40", after := #[{ on := 3, ground := Ground.data }], guard := none }) (v := ?q14v) rfl (by kernel_rfl) (by kernel_rfl) (by kernel_rfl) (fun _ _ _ h => h) (Or.inl ⟨by rfl, ?q14h⟩) hHeld ?q14r
      case q14h => (intro wq hSw; have q44 := hSw.1; clear hSw; go_simp; try with_reducible rfl)
      try simp only [Act.put, List.setIfInBounds_toArray, List.set_cons_zero, List.set_cons_succ]
      refine wpAnyH_take (i := 5) (oi := { dst := some 45, op := Op.call { callee := Callee.builtin Builtin.len, args := #[Operand.tmp 44], argTypes := #[23] }, type := 3, pos := "law.go:40", after := #[{ on := 4, ground := Ground.data }], guard := none }) (v := .int .i64 (d.pages.length : Int)) rfl (by kernel_rfl) (by kernel_rfl) (by kernel_rfl) (fun _ _ _ h => h) (Or.inl ⟨by rfl, ?q15h⟩) hHeld ?q15r
      case q15h => (intro wq hSw; clear hSw; go_simp; try with_reducible rfl)
      try simp only [Act.put, List.setIfInBounds_toArray, List.set_cons_zero, List.set_cons_succ]
      refine wpAnyH_take (i := 6) (oi := { dst := some 46, op := Op.fieldAddr 27 (Operand.tmp 3) 1, type := 0, pos := "law.go:40", after := #[], guard := none }) (v := ?q16v) rfl (by kernel_rfl) (by kernel_rfl) (by kernel_rfl) (fun _ _ _ h => h) (Or.inl ⟨by rfl, ?q16h⟩) hHeld ?q16r
      case q16h => (intro wq hSw; clear hSw; go_simp; try with_reducible rfl)
      try simp only [Act.put, List.setIfInBounds_toArray, List.set_cons_zero, List.set_cons_succ]
      refine wpAnyH_take (i := 7) (oi := { dst := some 47, op := Op.load 3 (Operand.tmp 46), type := 3, pos := "law.go:40", after := #[{ on := 6, ground := Ground.data }], guard := none }) (v := ?q17v) rfl (by kernel_rfl) (by kernel_rfl) (by kernel_rfl) (fun _ _ _ h => h) (Or.inl ⟨by rfl, ?q17h⟩) hHeld ?q17r
      case q17h => (intro wq hSw; have q47 := hSw.2; clear hSw; go_simp; try with_reducible rfl)
      try simp only [Act.put, List.setIfInBounds_toArray, List.set_cons_zero, List.set_cons_succ]
      refine wpAnyH_ready (rs := [1, 8]) (by kernel_rfl) (by simp) ?_
      refine AllReadyH.cons (o := { dst := some 41, op := Op.load 25 (Operand.tmp 40), type := 25, pos := "law.go:40", after := #[{ on := 0, ground := Ground.data }], guard := none }) rfl (fun K hK => ?_) (AllReadyH.cons (o := { dst := some 48, op := Op.call { callee := Callee.value (Operand.func 24), args := #[Operand.tmp 42, Operand.tmp 45, Operand.tmp 47], argTypes := #[32, 3, 3] }, type := 29, pos := "law.go:40", after := #[{ on := 2, ground := Ground.data }, { on := 5, ground := Ground.data }, { on := 7, ground := Ground.data }], guard := none }) rfl (fun K hK => ?_) (AllReadyH.nil))
      · have q41 := (HS4.out).drew.at 0 rfl 4 rfl
        go_simp
        clear q41
        have HS5 : Hid (DrH w C [.ob (w.heap.size) 27 (dvCells (.slice a1 d.pages.length c1) d (.slice a2 d.unread.length c2) (.slice a3 d.faults.length c3)), .ob B1 27 (dvCells nilS dvNil nilS nilS), .sl ((.slice a1 d.pages.length c1)) 9 1 (d.pages.length) (strRow d.pages), .sl ((.slice a2 d.unread.length c2)) 3 1 (d.unread.length) (intRow d.unread), .sl ((.slice a3 d.faults.length c3)) 29 6 (d.faults.length) (fltRow d.faults)] (w21.drew)) := (HS4.out).drew
        refine hK.out _ _ (⟨HS5.out.at 0 rfl 0 rfl, HS5.out.at 0 rfl 1 rfl⟩) (fun hHeld => ?_)
        clear hK K
        generalize w21.drew = w22 at *
        try simp only [Act.put, List.setIfInBounds_toArray, List.set_cons_zero, List.set_cons_succ]
        refine wpAnyH_ready (rs := [8]) (by kernel_rfl) (by simp) ?_
        refine AllReadyH.cons (o := { dst := some 48, op := Op.call { callee := Callee.value (Operand.func 24), args := #[Operand.tmp 42, Operand.tmp 45, Operand.tmp 47], argTypes := #[32, 3, 3] }, type := 29, pos := "law.go:40", after := #[{ on := 2, ground := Ground.data }, { on := 5, ground := Ground.data }, { on := 7, ground := Ground.data }], guard := none }) rfl (fun K hK => ?_) (AllReadyH.nil)
        go_simp
        go_wp2_with (go_at_call 24; refine (fault_d C d.pages.length d.writes _ (HS5.out).codes HPl.out).mono ?_; rintro e w23 ⟨g, rfl, hgf, hb, hc⟩)
        have HS6 : Hid (DrH w C [.ob (w.heap.size) 27 (dvCells (.slice a1 d.pages.length c1) d (.slice a2 d.unread.length c2) (.slice a3 d.faults.length c3)), .ob B1 27 (dvCells nilS dvNil nilS nilS), .sl ((.slice a1 d.pages.length c1)) 9 1 (d.pages.length) (strRow d.pages), .sl ((.slice a2 d.unread.length c2)) 3 1 (d.unread.length) (intRow d.unread), .sl ((.slice a3 d.faults.length c3)) 29 6 (d.faults.length) (fltRow d.faults)] w23) := (HS5.out).draws hb hc
        refine hK.out _ _ (⟨HS6.out.at 0 rfl 0 rfl, HS6.out.at 0 rfl 1 rfl⟩) (fun hHeld => ?_)
        clear hK K hb hc
        have HGf := Lib.hid hgf
        clear hgf
        try simp only [Act.put, List.setIfInBounds_toArray, List.set_cons_zero, List.set_cons_succ]
        refine wpAnyH_ready (rs := [9]) (by kernel_rfl) (by simp) ?_
        refine AllReadyH.cons (o := { dst := some 49, op := Op.buildSlice 25 1 #[(0, Operand.tmp 48)], type := 25, pos := "law.go:40", after := #[{ on := 8, ground := Ground.data }], guard := none }) rfl (fun K hK => ?_) (AllReadyH.nil)
        rw [if_pos (by rfl)]
        refine wp_build_obs rfl elem_flt HUX.out [fltCells g] (List.forall_mem_cons.2 ⟨rfl, (fun _ h => absurd h List.not_mem_nil)⟩) (Nat.succ_pos _) (by simp only [List.length_cons, List.length_nil]; omega) rfl (by simp only [List.map_toArray, List.map_cons, List.map_nil, List.zipIdx_cons, List.zipIdx_nil]; exact rfl) ?_
        have HS7 : Hid (DrH w C [.ob (w.heap.size) 27 (dvCells (.slice a1 d.pages.length c1) d (.slice a2 d.unread.length c2) (.slice a3 d.faults.length c3)), .ob B1 27 (dvCells nilS dvNil nilS nilS), .sl ((.slice a1 d.pages.length c1)) 9 1 (d.pages.length) (strRow d.pages), .sl ((.slice a2 d.unread.length c2)) 3 1 (d.unread.length) (intRow d.unread), .sl ((.slice a3 d.faults.length c3)) 29 6 (d.faults.length) (fltRow d.faults), .ob (w23.heap.size) 29 (([fltCells g] : List (List Value)).flatMap id)] (w23.alloc (.cells (([fltCells g] : List (List Value)).flatMap id).toArray 29))) := (HS6.out).put 29 (([fltCells g] : List (List Value)).flatMap id)
        refine hK.out _ _ (⟨HS7.out.at 0 rfl 0 rfl, HS7.out.at 0 rfl 1 rfl⟩) (fun hHeld => ?_)
        clear hK K
        generalize (w23.alloc (.cells (([fltCells g] : List (List Value)).flatMap id).toArray 29)) = w24 at *
        generalize w23.heap.size = B2 at *
        try simp only [Act.put, List.setIfInBounds_toArray, List.set_cons_zero, List.set_cons_succ]
        refine wpAnyH_ready (rs := [10]) (by kernel_rfl) (by simp) ?_
        refine AllReadyH.cons (o := { dst := some 50, op := Op.call { callee := Callee.builtin Builtin.append, args := #[Operand.tmp 41, Operand.tmp 49], argTypes := #[25, 25] }, type := 25, pos := "law.go:40", after := #[{ on := 1, ground := Ground.data }, { on := 9, ground := Ground.data }, { on := 8, ground := Ground.chain }], guard := none }) rfl (fun K hK => ?_) (AllReadyH.nil)
        rw [if_pos (by rfl)]
        refine wp_append_dr (HS7.out) (.tmp 41) (.tmp 49) 25 rfl 4 rfl 5 rfl HUX.out elem_flt 1 1 rfl rfl rfl (one_flt g) (by have := HLn.out; omega) ?_
        intro v25 w25 hs hnil
        have HS9 : Hid (DrH w C [.ob (w.heap.size) 27 (dvCells (.slice a1 d.pages.length c1) d (.slice a2 d.unread.length c2) (.slice a3 d.faults.length c3)), .ob B1 27 (dvCells nilS dvNil nilS nilS), .sl ((.slice a1 d.pages.length c1)) 9 1 (d.pages.length) (strRow d.pages), .sl ((.slice a2 d.unread.length c2)) 3 1 (d.unread.length) (intRow d.unread), .sl v25 29 6 (d.faults.length + 1) ((fltRow d.faults) ++ (([fltCells g] : List (List Value)).flatMap id)), .ob B2 29 (([fltCells g] : List (List Value)).flatMap id)] w25) := hs
        refine hK.out _ _ (⟨HS9.out.at 0 rfl 0 rfl, HS9.out.at 0 rfl 1 rfl⟩) (fun hHeld => ?_)
        clear hK K hs
        try simp only [Act.put, List.setIfInBounds_toArray, List.set_cons_zero, List.set_cons_succ]
        refine wpAnyH_take (i := 11) (oi := { dst := some 51, op := Op.fieldAddr 27 (Operand.tmp 3) 4, type := 0, pos := "law.go:40", after := #[{ on := 0, ground := Ground.phase }, { on := 1, ground := Ground.phase }, { on := 2, ground := Ground.phase }, { on := 3, ground := Ground.phase }, { on := 4, ground := Ground.phase }, { on := 5, ground := Ground.phase }, { on := 6, ground := Ground.phase }, { on := 7, ground := Ground.phase }, { on := 8, ground := Ground.phase }, { on := 9, ground := Ground.phase }, { on := 10, ground := Ground.phase }], guard := none }) (v := ?q18v) rfl (by kernel_rfl) (by kernel_rfl) (by kernel_rfl) (fun _ _ _ h => h) (Or.inl ⟨by rfl, ?q18h⟩) hHeld ?q18r
        case q18h => (intro wq hSw; clear hSw; go_simp; try with_reducible rfl)
        try simp only [Act.put, List.setIfInBounds_toArray, List.set_cons_zero, List.set_cons_succ]
        refine wpAnyH_ready (rs := [12]) (by kernel_rfl) (by simp) ?_
        refine AllReadyH.cons (o := { dst := none, op := Op.store 25 (Operand.tmp 51) (Operand.tmp 50), type := 0, pos := "law.go:40", after := #[{ on := 11, ground := Ground.data }, { on := 10, ground := Ground.data }, { on := 10, ground := Ground.chain }, { on := 0, ground := Ground.phase }, { on := 1, ground := Ground.phase }, { on := 2, ground := Ground.phase }, { on := 3, ground := Ground.phase }, { on := 4, ground := Ground.phase }, { on := 5, ground := Ground.phase }, { on := 6, ground := Ground.phase }, { on := 7, ground := Ground.phase }, { on := 8, ground := Ground.phase }, { on := 9, ground := Ground.phase }, { on := 10, ground := Ground.phase }], guard := none }) rfl (fun K hK => ?_) (AllReadyH.nil)
        obtain ⟨al3, cl3, rfl⟩ := own_slice (HS9.out.own 4 rfl)
        have q52 := HS9.out.at 0 rfl 4 rfl
        have f52 := HS9.out.frozen 0 rfl 4
        go_simp
        clear q52 f52
        have HS10 : Hid (DrH w C [.ob (w.heap.size) 27 (dvCells (.slice a1 d.pages.length c1) d (.slice a2 d.unread.length c2) (.slice al3 (d.faults.length + 1) cl3)), .ob B1 27 (dvCells nilS dvNil nilS nilS), .sl ((.slice a1 d.pages.length c1)) 9 1 (d.pages.length) (strRow d.pages), .sl ((.slice a2 d.unread.length c2)) 3 1 (d.unread.length) (intRow d.unread), .sl ((.slice al3 (d.faults.length + 1) cl3)) 29 6 (d.faults.length + 1) ((fltRow d.faults) ++ (([fltCells g] : List (List Value)).flatMap id)), .ob B2 29 (([fltCells g] : List (List Value)).flatMap id)] (w25.setCell ⟨(w.heap.size), 4, none⟩ (.slice al3 (d.faults.length + 1) cl3))) := (HS9.out).set 0 rfl 4 (.slice al3 (d.faults.length + 1) cl3)
        refine hK.out _ _ (⟨HS10.out.at 0 rfl 0 rfl, HS10.out.at 0 rfl 1 rfl⟩) (fun hHeld => ?_)
        clear hK K
        generalize (w25.setCell ⟨(w.heap.size), 4, none⟩ (.slice al3 (d.faults.length + 1) cl3)) = w26 at *
        try simp only [Act.put, List.setIfInBounds_toArray, List.set_cons_zero, List.set_cons_succ]
        refine wpAnyH_done (by kernel_rfl) ?_ _
        clear hHeld
        have HS11 : Hid (DrH w C [.ob (w.heap.size) 27 (dvCells (.slice a1 d.pages.length c1) d (.slice a2 d.unread.length c2) (.slice al3 (d.faults.length + 1) cl3)), .ob B1 27 (dvCells nilS dvNil nilS nilS), .sl ((.slice a1 d.pages.length c1)) 9 1 (d.pages.length) (strRow d.pages), .sl ((.slice a2 d.unread.length c2)) 3 1 (d.unread.length) (intRow d.unread), .sl ((.slice al3 (d.faults.length + 1) cl3)) 29 6 (d.faults.length + 1) ((fltRow d.faults) ++ (([fltCells g] : List (List Value)).flatMap id))] w26) := HS10.out.pull [0, 1, 2, 3, 4] rfl (pull_nd HS10.out.nd [0, 1, 2, 3, 4] rfl (by decide))
        clear HS10
        have hh : ∀ wx, DrH w C [.ob (w.heap.size) 27 (dvCells (.slice a1 d.pages.length c1) d (.slice a2 d.unread.length c2) (.slice al3 (d.faults.length + 1) cl3)), .ob B1 27 (dvCells nilS dvNil nilS nilS), .sl ((.slice a1 d.pages.length c1)) 9 1 (d.pages.length) (strRow d.pages), .sl ((.slice a2 d.unread.length c2)) 3 1 (d.unread.length) (intRow d.unread), .sl ((.slice al3 (d.faults.length + 1) cl3)) 29 6 (d.faults.length + 1) ((fltRow d.faults) ++ (([fltCells g] : List (List Value)).flatMap id))] wx → DrH w C [.ob (w.heap.size) 27 (dvCells (.slice a1 d.pages.length c1) (⟨d.pages, d.writes, d.unread, d.dead, d.faults ++ [g]⟩ : Dv) (.slice a2 d.unread.length c2) (.slice al3 (d.faults.length + 1) cl3)), .ob B1 27 (dvCells nilS dvNil nilS nilS), .sl ((.slice a1 d.pages.length c1)) 9 1 ((⟨d.pages, d.writes, d.unread, d.dead, d.faults ++ [g]⟩ : Dv).pages.length) (strRow (⟨d.pages, d.writes, d.unread, d.dead, d.faults ++ [g]⟩ : Dv).pages), .sl ((.slice a2 d.unread.length c2)) 3 1 ((⟨d.pages, d.writes, d.unread, d.dead, d.faults ++ [g]⟩ : Dv).unread.length) (intRow (⟨d.pages, d.writes, d.unread, d.dead, d.faults ++ [g]⟩ : Dv).unread), .sl ((.slice al3 (d.faults.length + 1) cl3)) 29 6 ((⟨d.pages, d.writes, d.unread, d.dead, d.faults ++ [g]⟩ : Dv).faults.length) (fltRow (⟨d.pages, d.writes, d.unread, d.dead, d.faults ++ [g]⟩ : Dv).faults)] wx := fun wx h => by
          show DrH w C [_, _, _, _, .sl _ _ _ (d.faults ++ [g]).length (fltRow (d.faults ++ [g]))] wx
          rw [List.length_append, fltRow_snoc]
          exact h
        go_wp2_with fail
        go_meet
        exact ⟨(⟨d.pages, d.writes, d.unread, d.dead, d.faults ++ [g]⟩ : Dv), (.slice a1 d.pages.length c1), (.slice a2 d.unread.length c2), (.slice al3 (d.faults.length + 1) cl3), ⟨fun x hx => (List.mem_append.1 hx).elim (HG.out.faults x) (fun h => by rw [List.mem_singleton.1 h]; exact HGf.out), HG.out.pages, HG.out.unread⟩, by have := HLn.out; show d.pages.length ≤ 71; omega, by have := HLn.out; show (d.faults ++ [g]).length ≤ 136; simp; omega, hh _ (HS11.out)⟩
      · go_simp
        go_wp2_with (go_at_call 24; refine (fault_d C d.pages.length d.writes _ ((HS4.out).drew).codes HPl.out).mono ?_; rintro e w22 ⟨g, rfl, hgf, hb, hc⟩)
        have HS5 : Hid (DrH w C [.ob (w.heap.size) 27 (dvCells (.slice a1 d.pages.length c1) d (.slice a2 d.unread.length c2) (.slice a3 d.faults.length c3)), .ob B1 27 (dvCells nilS dvNil nilS nilS), .sl ((.slice a1 d.pages.length c1)) 9 1 (d.pages.length) (strRow d.pages), .sl ((.slice a2 d.unread.length c2)) 3 1 (d.unread.length) (intRow d.unread), .sl ((.slice a3 d.faults.length c3)) 29 6 (d.faults.length) (fltRow d.faults)] w22) := ((HS4.out).drew).draws hb hc
        refine hK.out _ _ (⟨HS5.out.at 0 rfl 0 rfl, HS5.out.at 0 rfl 1 rfl⟩) (fun hHeld => ?_)
        clear hK K hb hc
        have HGf := Lib.hid hgf
        clear hgf
        try simp only [Act.put, List.setIfInBounds_toArray, List.set_cons_zero, List.set_cons_succ]
        refine wpAnyH_ready (rs := [1, 9]) (by kernel_rfl) (by simp) ?_
        refine AllReadyH.cons (o := { dst := some 41, op := Op.load 25 (Operand.tmp 40), type := 25, pos := "law.go:40", after := #[{ on := 0, ground := Ground.data }], guard := none }) rfl (fun K hK => ?_) (AllReadyH.cons (o := { dst := some 49, op := Op.buildSlice 25 1 #[(0, Operand.tmp 48)], type := 25, pos := "law.go:40", after := #[{ on := 8, ground := Ground.data }], guard := none }) rfl (fun K hK => ?_) (AllReadyH.nil))
        · have q41 := HS5.out.at 0 rfl 4 rfl
          go_simp
          clear q41
          have HS6 : Hid (DrH w C [.ob (w.heap.size) 27 (dvCells (.slice a1 d.pages.length c1) d (.slice a2 d.unread.length c2) (.slice a3 d.faults.length c3)), .ob B1 27 (dvCells nilS dvNil nilS nilS), .sl ((.slice a1 d.pages.length c1)) 9 1 (d.pages.length) (strRow d.pages), .sl ((.slice a2 d.unread.length c2)) 3 1 (d.unread.length) (intRow d.unread), .sl ((.slice a3 d.faults.length c3)) 29 6 (d.faults.length) (fltRow d.faults)] w22) := HS5.out
          refine hK.out _ _ (⟨HS6.out.at 0 rfl 0 rfl, HS6.out.at 0 rfl 1 rfl⟩) (fun hHeld => ?_)
          clear hK K
          try simp only [Act.put, List.setIfInBounds_toArray, List.set_cons_zero, List.set_cons_succ]
          refine wpAnyH_ready (rs := [9]) (by kernel_rfl) (by simp) ?_
          refine AllReadyH.cons (o := { dst := some 49, op := Op.buildSlice 25 1 #[(0, Operand.tmp 48)], type := 25, pos := "law.go:40", after := #[{ on := 8, ground := Ground.data }], guard := none }) rfl (fun K hK => ?_) (AllReadyH.nil)
          rw [if_pos (by rfl)]
          refine wp_build_obs rfl elem_flt HUX.out [fltCells g] (List.forall_mem_cons.2 ⟨rfl, (fun _ h => absurd h List.not_mem_nil)⟩) (Nat.succ_pos _) (by simp only [List.length_cons, List.length_nil]; omega) rfl (by simp only [List.map_toArray, List.map_cons, List.map_nil, List.zipIdx_cons, List.zipIdx_nil]; exact rfl) ?_
          have HS7 : Hid (DrH w C [.ob (w.heap.size) 27 (dvCells (.slice a1 d.pages.length c1) d (.slice a2 d.unread.length c2) (.slice a3 d.faults.length c3)), .ob B1 27 (dvCells nilS dvNil nilS nilS), .sl ((.slice a1 d.pages.length c1)) 9 1 (d.pages.length) (strRow d.pages), .sl ((.slice a2 d.unread.length c2)) 3 1 (d.unread.length) (intRow d.unread), .sl ((.slice a3 d.faults.length c3)) 29 6 (d.faults.length) (fltRow d.faults), .ob (w22.heap.size) 29 (([fltCells g] : List (List Value)).flatMap id)] (w22.alloc (.cells (([fltCells g] : List (List Value)).flatMap id).toArray 29))) := (HS6.out).put 29 (([fltCells g] : List (List Value)).flatMap id)
          refine hK.out _ _ (⟨HS7.out.at 0 rfl 0 rfl, HS7.out.at 0 rfl 1 rfl⟩) (fun hHeld => ?_)
          clear hK K
          generalize (w22.alloc (.cells (([fltCells g] : List (List Value)).flatMap id).toArray 29)) = w23 at *
          generalize w22.heap.size = B2 at *
          try simp only [Act.put, List.setIfInBounds_toArray, List.set_cons_zero, List.set_cons_succ]
          refine wpAnyH_ready (rs := [10]) (by kernel_rfl) (by simp) ?_
          refine AllReadyH.cons (o := { dst := some 50, op := Op.call { callee := Callee.builtin Builtin.append, args := #[Operand.tmp 41, Operand.tmp 49], argTypes := #[25, 25] }, type := 25, pos := "law.go:40", after := #[{ on := 1, ground := Ground.data }, { on := 9, ground := Ground.data }, { on := 8, ground := Ground.chain }], guard := none }) rfl (fun K hK => ?_) (AllReadyH.nil)
          rw [if_pos (by rfl)]
          refine wp_append_dr (HS7.out) (.tmp 41) (.tmp 49) 25 rfl 4 rfl 5 rfl HUX.out elem_flt 1 1 rfl rfl rfl (one_flt g) (by have := HLn.out; omega) ?_
          intro v24 w24 hs hnil
          have HS9 : Hid (DrH w C [.ob (w.heap.size) 27 (dvCells (.slice a1 d.pages.length c1) d (.slice a2 d.unread.length c2) (.slice a3 d.faults.length c3)), .ob B1 27 (dvCells nilS dvNil nilS nilS), .sl ((.slice a1 d.pages.length c1)) 9 1 (d.pages.length) (strRow d.pages), .sl ((.slice a2 d.unread.length c2)) 3 1 (d.unread.length) (intRow d.unread), .sl v24 29 6 (d.faults.length + 1) ((fltRow d.faults) ++ (([fltCells g] : List (List Value)).flatMap id)), .ob B2 29 (([fltCells g] : List (List Value)).flatMap id)] w24) := hs
          refine hK.out _ _ (⟨HS9.out.at 0 rfl 0 rfl, HS9.out.at 0 rfl 1 rfl⟩) (fun hHeld => ?_)
          clear hK K hs
          try simp only [Act.put, List.setIfInBounds_toArray, List.set_cons_zero, List.set_cons_succ]
          refine wpAnyH_take (i := 11) (oi := { dst := some 51, op := Op.fieldAddr 27 (Operand.tmp 3) 4, type := 0, pos := "law.go:40", after := #[{ on := 0, ground := Ground.phase }, { on := 1, ground := Ground.phase }, { on := 2, ground := Ground.phase }, { on := 3, ground := Ground.phase }, { on := 4, ground := Ground.phase }, { on := 5, ground := Ground.phase }, { on := 6, ground := Ground.phase }, { on := 7, ground := Ground.phase }, { on := 8, ground := Ground.phase }, { on := 9, ground := Ground.phase }, { on := 10, ground := Ground.phase }], guard := none }) (v := ?q19v) rfl (by kernel_rfl) (by kernel_rfl) (by kernel_rfl) (fun _ _ _ h => h) (Or.inl ⟨by rfl, ?q19h⟩) hHeld ?q19r
          case q19h => (intro wq hSw; clear hSw; go_simp; try with_reducible rfl)
          try simp only [Act.put, List.setIfInBounds_toArray, List.set_cons_zero, List.set_cons_succ]
          refine wpAnyH_ready (rs := [12]) (by kernel_rfl) (by simp) ?_
          refine AllReadyH.cons (o := { dst := none, op := Op.store 25 (Operand.tmp 51) (Operand.tmp 50), type := 0, pos := "law.go:40", after := #[{ on := 11, ground := Ground.data }, { on := 10, ground := Ground.data }, { on := 10, ground := Ground.chain }, { on := 0, ground := Ground.phase }, { on := 1, ground := Ground.phase }, { on := 2, ground := Ground.phase }, { on := 3, ground := Ground.phase }, { on := 4, ground := Ground.phase }, { on := 5, ground := Ground.phase }, { on := 6, ground := Ground.phase }, { on := 7, ground := Ground.phase }, { on := 8, ground := Ground.phase }, { on := 9, ground := Ground.phase }, { on := 10, ground := Ground.phase }], guard := none }) rfl (fun K hK => ?_) (AllReadyH.nil)
          obtain ⟨al3, cl3, rfl⟩ := own_slice (HS9.out.own 4 rfl)
          have q52 := HS9.out.at 0 rfl 4 rfl
          have f52 := HS9.out.frozen 0 rfl 4
          go_simp
          clear q52 f52
          have HS10 : Hid (DrH w C [.ob (w.heap.size) 27 (dvCells (.slice a1 d.pages.length c1) d (.slice a2 d.unread.length c2) (.slice al3 (d.faults.length + 1) cl3)), .ob B1 27 (dvCells nilS dvNil nilS nilS), .sl ((.slice a1 d.pages.length c1)) 9 1 (d.pages.length) (strRow d.pages), .sl ((.slice a2 d.unread.length c2)) 3 1 (d.unread.length) (intRow d.unread), .sl ((.slice al3 (d.faults.length + 1) cl3)) 29 6 (d.faults.length + 1) ((fltRow d.faults) ++ (([fltCells g] : List (List Value)).flatMap id)), .ob B2 29 (([fltCells g] : List (List Value)).flatMap id)] (w24.setCell ⟨(w.heap.size), 4, none⟩ (.slice al3 (d.faults.length + 1) cl3))) := (HS9.out).set 0 rfl 4 (.slice al3 (d.faults.length + 1) cl3)
          refine hK.out _ _ (⟨HS10.out.at 0 rfl 0 rfl, HS10.out.at 0 rfl 1 rfl⟩) (fun hHeld => ?_)
          clear hK K
          generalize (w24.setCell ⟨(w.heap.size), 4, none⟩ (.slice al3 (d.faults.length + 1) cl3)) = w25 at *
          try simp only [Act.put, List.setIfInBounds_toArray, List.set_cons_zero, List.set_cons_succ]
          refine wpAnyH_done (by kernel_rfl) ?_ _
          clear hHeld
          have HS11 : Hid (DrH w C [.ob (w.heap.size) 27 (dvCells (.slice a1 d.pages.length c1) d (.slice a2 d.unread.length c2) (.slice al3 (d.faults.length + 1) cl3)), .ob B1 27 (dvCells nilS dvNil nilS nilS), .sl ((.slice a1 d.pages.length c1)) 9 1 (d.pages.length) (strRow d.pages), .sl ((.slice a2 d.unread.length c2)) 3 1 (d.unread.length) (intRow d.unread), .sl ((.slice al3 (d.faults.length + 1) cl3)) 29 6 (d.faults.length + 1) ((fltRow d.faults) ++ (([fltCells g] : List (List Value)).flatMap id))] w25) := HS10.out.pull [0, 1, 2, 3, 4] rfl (pull_nd HS10.out.nd [0, 1, 2, 3, 4] rfl (by decide))
          clear HS10
          have hh : ∀ wx, DrH w C [.ob (w.heap.size) 27 (dvCells (.slice a1 d.pages.length c1) d (.slice a2 d.unread.length c2) (.slice al3 (d.faults.length + 1) cl3)), .ob B1 27 (dvCells nilS dvNil nilS nilS), .sl ((.slice a1 d.pages.length c1)) 9 1 (d.pages.length) (strRow d.pages), .sl ((.slice a2 d.unread.length c2)) 3 1 (d.unread.length) (intRow d.unread), .sl ((.slice al3 (d.faults.length + 1) cl3)) 29 6 (d.faults.length + 1) ((fltRow d.faults) ++ (([fltCells g] : List (List Value)).flatMap id))] wx → DrH w C [.ob (w.heap.size) 27 (dvCells (.slice a1 d.pages.length c1) (⟨d.pages, d.writes, d.unread, d.dead, d.faults ++ [g]⟩ : Dv) (.slice a2 d.unread.length c2) (.slice al3 (d.faults.length + 1) cl3)), .ob B1 27 (dvCells nilS dvNil nilS nilS), .sl ((.slice a1 d.pages.length c1)) 9 1 ((⟨d.pages, d.writes, d.unread, d.dead, d.faults ++ [g]⟩ : Dv).pages.length) (strRow (⟨d.pages, d.writes, d.unread, d.dead, d.faults ++ [g]⟩ : Dv).pages), .sl ((.slice a2 d.unread.length c2)) 3 1 ((⟨d.pages, d.writes, d.unread, d.dead, d.faults ++ [g]⟩ : Dv).unread.length) (intRow (⟨d.pages, d.writes, d.unread, d.dead, d.faults ++ [g]⟩ : Dv).unread), .sl ((.slice al3 (d.faults.length + 1) cl3)) 29 6 ((⟨d.pages, d.writes, d.unread, d.dead, d.faults ++ [g]⟩ : Dv).faults.length) (fltRow (⟨d.pages, d.writes, d.unread, d.dead, d.faults ++ [g]⟩ : Dv).faults)] wx := fun wx h => by
            show DrH w C [_, _, _, _, .sl _ _ _ (d.faults ++ [g]).length (fltRow (d.faults ++ [g]))] wx
            rw [List.length_append, fltRow_snoc]
            exact h
          go_wp2_with fail
          go_meet
          exact ⟨(⟨d.pages, d.writes, d.unread, d.dead, d.faults ++ [g]⟩ : Dv), (.slice a1 d.pages.length c1), (.slice a2 d.unread.length c2), (.slice al3 (d.faults.length + 1) cl3), ⟨fun x hx => (List.mem_append.1 hx).elim (HG.out.faults x) (fun h => by rw [List.mem_singleton.1 h]; exact HGf.out), HG.out.pages, HG.out.unread⟩, by have := HLn.out; show d.pages.length ≤ 71; omega, by have := HLn.out; show (d.faults ++ [g]).length ≤ 136; simp; omega, hh _ (HS11.out)⟩
        · rw [if_pos (by rfl)]
          refine wp_build_obs rfl elem_flt HUX.out [fltCells g] (List.forall_mem_cons.2 ⟨rfl, (fun _ h => absurd h List.not_mem_nil)⟩) (Nat.succ_pos _) (by simp only [List.length_cons, List.length_nil]; omega) rfl (by simp only [List.map_toArray, List.map_cons, List.map_nil, List.zipIdx_cons, List.zipIdx_nil]; exact rfl) ?_
          have HS6 : Hid (DrH w C [.ob (w.heap.size) 27 (dvCells (.slice a1 d.pages.length c1) d (.slice a2 d.unread.length c2) (.slice a3 d.faults.length c3)), .ob B1 27 (dvCells nilS dvNil nilS nilS), .sl ((.slice a1 d.pages.length c1)) 9 1 (d.pages.length) (strRow d.pages), .sl ((.slice a2 d.unread.length c2)) 3 1 (d.unread.length) (intRow d.unread), .sl ((.slice a3 d.faults.length c3)) 29 6 (d.faults.length) (fltRow d.faults), .ob (w22.heap.size) 29 (([fltCells g] : List (List Value)).flatMap id)] (w22.alloc (.cells (([fltCells g] : List (List Value)).flatMap id).toArray 29))) := (HS5.out).put 29 (([fltCells g] : List (List Value)).flatMap id)
          refine hK.out _ _ (⟨HS6.out.at 0 rfl 0 rfl, HS6.out.at 0 rfl 1 rfl⟩) (fun hHeld => ?_)
          clear hK K
          generalize (w22.alloc (.cells (([fltCells g] : List (List Value)).flatMap id).toArray 29)) = w23 at *
          generalize w22.heap.size = B2 at *
          try simp only [Act.put, List.setIfInBounds_toArray, List.set_cons_zero, List.set_cons_succ]
          refine wpAnyH_ready (rs := [1]) (by kernel_rfl) (by simp) ?_
          refine AllReadyH.cons (o := { dst := some 41, op := Op.load 25 (Operand.tmp 40), type := 25, pos := "law.go:40", after := #[{ on := 0, ground := Ground.data }], guard := none }) rfl (fun K hK => ?_) (AllReadyH.nil)
          have q41 := HS6.out.at 0 rfl 4 rfl
          go_simp
          clear q41
          have HS7 : Hid (DrH w C [.ob (w.heap.size) 27 (dvCells (.slice a1 d.pages.length c1) d (.slice a2 d.unread.length c2) (.slice a3 d.faults.length c3)), .ob B1 27 (dvCells nilS dvNil nilS nilS), .sl ((.slice a1 d.pages.length c1)) 9 1 (d.pages.length) (strRow d.pages), .sl ((.slice a2 d.unread.length c2)) 3 1 (d.unread.length) (intRow d.unread), .sl ((.slice a3 d.faults.length c3)) 29 6 (d.faults.length) (fltRow d.faults), .ob B2 29 (([fltCells g] : List (List Value)).flatMap id)] w23) := HS6.out
          refine hK.out _ _ (⟨HS7.out.at 0 rfl 0 rfl, HS7.out.at 0 rfl 1 rfl⟩) (fun hHeld => ?_)
          clear hK K
          try simp only [Act.put, List.setIfInBounds_toArray, List.set_cons_zero, List.set_cons_succ]
          refine wpAnyH_ready (rs := [10]) (by kernel_rfl) (by simp) ?_
          refine AllReadyH.cons (o := { dst := some 50, op := Op.call { callee := Callee.builtin Builtin.append, args := #[Operand.tmp 41, Operand.tmp 49], argTypes := #[25, 25] }, type := 25, pos := "law.go:40", after := #[{ on := 1, ground := Ground.data }, { on := 9, ground := Ground.data }, { on := 8, ground := Ground.chain }], guard := none }) rfl (fun K hK => ?_) (AllReadyH.nil)
          rw [if_pos (by rfl)]
          refine wp_append_dr (HS7.out) (.tmp 41) (.tmp 49) 25 rfl 4 rfl 5 rfl HUX.out elem_flt 1 1 rfl rfl rfl (one_flt g) (by have := HLn.out; omega) ?_
          intro v24 w24 hs hnil
          have HS9 : Hid (DrH w C [.ob (w.heap.size) 27 (dvCells (.slice a1 d.pages.length c1) d (.slice a2 d.unread.length c2) (.slice a3 d.faults.length c3)), .ob B1 27 (dvCells nilS dvNil nilS nilS), .sl ((.slice a1 d.pages.length c1)) 9 1 (d.pages.length) (strRow d.pages), .sl ((.slice a2 d.unread.length c2)) 3 1 (d.unread.length) (intRow d.unread), .sl v24 29 6 (d.faults.length + 1) ((fltRow d.faults) ++ (([fltCells g] : List (List Value)).flatMap id)), .ob B2 29 (([fltCells g] : List (List Value)).flatMap id)] w24) := hs
          refine hK.out _ _ (⟨HS9.out.at 0 rfl 0 rfl, HS9.out.at 0 rfl 1 rfl⟩) (fun hHeld => ?_)
          clear hK K hs
          try simp only [Act.put, List.setIfInBounds_toArray, List.set_cons_zero, List.set_cons_succ]
          refine wpAnyH_take (i := 11) (oi := { dst := some 51, op := Op.fieldAddr 27 (Operand.tmp 3) 4, type := 0, pos := "law.go:40", after := #[{ on := 0, ground := Ground.phase }, { on := 1, ground := Ground.phase }, { on := 2, ground := Ground.phase }, { on := 3, ground := Ground.phase }, { on := 4, ground := Ground.phase }, { on := 5, ground := Ground.phase }, { on := 6, ground := Ground.phase }, { on := 7, ground := Ground.phase }, { on := 8, ground := Ground.phase }, { on := 9, ground := Ground.phase }, { on := 10, ground := Ground.phase }], guard := none }) (v := ?q20v) rfl (by kernel_rfl) (by kernel_rfl) (by kernel_rfl) (fun _ _ _ h => h) (Or.inl ⟨by rfl, ?q20h⟩) hHeld ?q20r
          case q20h => (intro wq hSw; clear hSw; go_simp; try with_reducible rfl)
          try simp only [Act.put, List.setIfInBounds_toArray, List.set_cons_zero, List.set_cons_succ]
          refine wpAnyH_ready (rs := [12]) (by kernel_rfl) (by simp) ?_
          refine AllReadyH.cons (o := { dst := none, op := Op.store 25 (Operand.tmp 51) (Operand.tmp 50), type := 0, pos := "law.go:40", after := #[{ on := 11, ground := Ground.data }, { on := 10, ground := Ground.data }, { on := 10, ground := Ground.chain }, { on := 0, ground := Ground.phase }, { on := 1, ground := Ground.phase }, { on := 2, ground := Ground.phase }, { on := 3, ground := Ground.phase }, { on := 4, ground := Ground.phase }, { on := 5, ground := Ground.phase }, { on := 6, ground := Ground.phase }, { on := 7, ground := Ground.phase }, { on := 8, ground := Ground.phase }, { on := 9, ground := Ground.phase }, { on := 10, ground := Ground.phase }], guard := none }) rfl (fun K hK => ?_) (AllReadyH.nil)
          obtain ⟨al3, cl3, rfl⟩ := own_slice (HS9.out.own 4 rfl)
          have q52 := HS9.out.at 0 rfl 4 rfl
          have f52 := HS9.out.frozen 0 rfl 4
          go_simp
          clear q52 f52
          have HS10 : Hid (DrH w C [.ob (w.heap.size) 27 (dvCells (.slice a1 d.pages.length c1) d (.slice a2 d.unread.length c2) (.slice al3 (d.faults.length + 1) cl3)), .ob B1 27 (dvCells nilS dvNil nilS nilS), .sl ((.slice a1 d.pages.length c1)) 9 1 (d.pages.length) (strRow d.pages), .sl ((.slice a2 d.unread.length c2)) 3 1 (d.unread.length) (intRow d.unread), .sl ((.slice al3 (d.faults.length + 1) cl3)) 29 6 (d.faults.length + 1) ((fltRow d.faults) ++ (([fltCells g] : List (List Value)).flatMap id)), .ob B2 29 (([fltCells g] : List (List Value)).flatMap id)] (w24.setCell ⟨(w.heap.size), 4, none⟩ (.slice al3 (d.faults.length + 1) cl3))) := (HS9.out).set 0 rfl 4 (.slice al3 (d.faults.length + 1) cl3)
          refine hK.out _ _ (⟨HS10.out.at 0 rfl 0 rfl, HS10.out.at 0 rfl 1 rfl⟩) (fun hHeld => ?_)
          clear hK K
          generalize (w24.setCell ⟨(w.heap.size), 4, none⟩ (.slice al3 (d.faults.length + 1) cl3)) = w25 at *
          try simp only [Act.put, List.setIfInBounds_toArray, List.set_cons_zero, List.set_cons_succ]
          refine wpAnyH_done (by kernel_rfl) ?_ _
          clear hHeld
          have HS11 : Hid (DrH w C [.ob (w.heap.size) 27 (dvCells (.slice a1 d.pages.length c1) d (.slice a2 d.unread.length c2) (.slice al3 (d.faults.length + 1) cl3)), .ob B1 27 (dvCells nilS dvNil nilS nilS), .sl ((.slice a1 d.pages.length c1)) 9 1 (d.pages.length) (strRow d.pages), .sl ((.slice a2 d.unread.length c2)) 3 1 (d.unread.length) (intRow d.unread), .sl ((.slice al3 (d.faults.length + 1) cl3)) 29 6 (d.faults.length + 1) ((fltRow d.faults) ++ (([fltCells g] : List (List Value)).flatMap id))] w25) := HS10.out.pull [0, 1, 2, 3, 4] rfl (pull_nd HS10.out.nd [0, 1, 2, 3, 4] rfl (by decide))
          clear HS10
          have hh : ∀ wx, DrH w C [.ob (w.heap.size) 27 (dvCells (.slice a1 d.pages.length c1) d (.slice a2 d.unread.length c2) (.slice al3 (d.faults.length + 1) cl3)), .ob B1 27 (dvCells nilS dvNil nilS nilS), .sl ((.slice a1 d.pages.length c1)) 9 1 (d.pages.length) (strRow d.pages), .sl ((.slice a2 d.unread.length c2)) 3 1 (d.unread.length) (intRow d.unread), .sl ((.slice al3 (d.faults.length + 1) cl3)) 29 6 (d.faults.length + 1) ((fltRow d.faults) ++ (([fltCells g] : List (List Value)).flatMap id))] wx → DrH w C [.ob (w.heap.size) 27 (dvCells (.slice a1 d.pages.length c1) (⟨d.pages, d.writes, d.unread, d.dead, d.faults ++ [g]⟩ : Dv) (.slice a2 d.unread.length c2) (.slice al3 (d.faults.length + 1) cl3)), .ob B1 27 (dvCells nilS dvNil nilS nilS), .sl ((.slice a1 d.pages.length c1)) 9 1 ((⟨d.pages, d.writes, d.unread, d.dead, d.faults ++ [g]⟩ : Dv).pages.length) (strRow (⟨d.pages, d.writes, d.unread, d.dead, d.faults ++ [g]⟩ : Dv).pages), .sl ((.slice a2 d.unread.length c2)) 3 1 ((⟨d.pages, d.writes, d.unread, d.dead, d.faults ++ [g]⟩ : Dv).unread.length) (intRow (⟨d.pages, d.writes, d.unread, d.dead, d.faults ++ [g]⟩ : Dv).unread), .sl ((.slice al3 (d.faults.length + 1) cl3)) 29 6 ((⟨d.pages, d.writes, d.unread, d.dead, d.faults ++ [g]⟩ : Dv).faults.length) (fltRow (⟨d.pages, d.writes, d.unread, d.dead, d.faults ++ [g]⟩ : Dv).faults)] wx := fun wx h => by
            show DrH w C [_, _, _, _, .sl _ _ _ (d.faults ++ [g]).length (fltRow (d.faults ++ [g]))] wx
            rw [List.length_append, fltRow_snoc]
            exact h
          go_wp2_with fail
          go_meet
          exact ⟨(⟨d.pages, d.writes, d.unread, d.dead, d.faults ++ [g]⟩ : Dv), (.slice a1 d.pages.length c1), (.slice a2 d.unread.length c2), (.slice al3 (d.faults.length + 1) cl3), ⟨fun x hx => (List.mem_append.1 hx).elim (HG.out.faults x) (fun h => by rw [List.mem_singleton.1 h]; exact HGf.out), HG.out.pages, HG.out.unread⟩, by have := HLn.out; show d.pages.length ≤ 71; omega, by have := HLn.out; show (d.faults ++ [g]).length ≤ 136; simp; omega, hh _ (HS11.out)⟩
    · skip
      go_wp2_with fail
      go_loopw [] (fun wr => ∃ (l : List Flt) (f : Value), (∀ x ∈ l, GoodFlt x) ∧ l.length ≤ 71 ∧ DrH w C [.ob (w.heap.size) 27 (dvCells (.slice a1 d.pages.length c1) (⟨d.pages, d.writes, d.unread, d.dead, l⟩ : Dv) (.slice a2 d.unread.length c2) f), .ob B1 27 (dvCells nilS dvNil nilS nilS), .sl ((.slice a1 d.pages.length c1)) 9 1 ((⟨d.pages, d.writes, d.unread, d.dead, l⟩ : Dv).pages.length) (strRow (⟨d.pages, d.writes, d.unread, d.dead, l⟩ : Dv).pages), .sl ((.slice a2 d.unread.length c2)) 3 1 ((⟨d.pages, d.writes, d.unread, d.dead, l⟩ : Dv).unread.length) (intRow (⟨d.pages, d.writes, d.unread, d.dead, l⟩ : Dv).unread), .sl f 29 6 ((⟨d.pages, d.writes, d.unread, d.dead, l⟩ : Dv).faults.length) (fltRow (⟨d.pages, d.writes, d.unread, d.dead, l⟩ : Dv).faults)] wr) (fun wr => 65 - (match World.cell? wr ⟨w.heap.size, 4, none⟩ with | some (.slice _ n _) => n | _ => 0))
      case atStart => exact ⟨d.faults, (.slice a3 d.faults.length c3), HG.out.faults, by have := HLn.out; omega, HS3.out⟩
      case round =>
        obtain ⟨l, f, hgl, hll, hs⟩ := hrel
        clear HS3
        obtain ⟨af, cf, rfl⟩ := own_slice (hs.own 4 rfl)
        have HGl := Lib.hid hgl
        have HLl := Lib.hid hll
        have HQ : Hid (DrH w C [.ob (w.heap.size) 27 (dvCells (.slice a1 d.pages.length c1) (⟨d.pages, d.writes, d.unread, d.dead, l⟩ : Dv) (.slice a2 d.unread.length c2) (.slice af l.length cf)), .ob B1 27 (dvCells nilS dvNil nilS nilS), .sl ((.slice a1 d.pages.length c1)) 9 1 ((⟨d.pages, d.writes, d.unread, d.dead, l⟩ : Dv).pages.length) (strRow (⟨d.pages, d.writes, d.unread, d.dead, l⟩ : Dv).pages), .sl ((.slice a2 d.unread.length c2)) 3 1 ((⟨d.pages, d.writes, d.unread, d.dead, l⟩ : Dv).unread.length) (intRow (⟨d.pages, d.writes, d.unread, d.dead, l⟩ : Dv).unread), .sl ((.slice af l.length cf)) 29 6 ((⟨d.pages, d.writes, d.unread, d.dead, l⟩ : Dv).faults.length) (fltRow (⟨d.pages, d.writes, d.unread, d.dead, l⟩ : Dv).faults)] wr) := hs
        clear hs hgl hll
        have b4 : wr.cell? ⟨w.heap.size, 4, none⟩ = some (.slice af l.length cf) := HQ.out.at 0 rfl 4 rfl
        have HQ0 := Lib.hid b4
        by_cases hlt : l.length ≤ 64
        · have hli : (l.length : Int) ≤ 64 := by omega
          have HLt := Lib.hid hlt
          have b1 : wr.cell? ⟨w.heap.size, 1, none⟩ = some (.int .i64 d.writes) := HQ.out.at 0 rfl 1 rfl
          clear hlt
          obtain ⟨at0, hat0⟩ : ∃ z, z = wrap64 (d.writes + 1) := ⟨_, rfl⟩
          have HAt : Hid (GoodFlt ⟨1, wrap64 (d.writes + 1), 0, 0, 0, 0⟩) := Lib.hid (goodFlt_of (by omega) (by rw [← IntWalk.i64_left]; exact wrap_rng _))
          clear hat0
          go_wp2_with (first | ((with_reducible refine wpList_build_v (d := some 63) 29 (.agg (fltCells (⟨1, wrap64 (d.writes + 1), 0, 0, 0, 0⟩ : Flt)).toArray) ?_ ?_); (intro W; simp only [List.map_toArray, List.map_cons, List.map_nil]; exact build_fm 1 (wrap64 (d.writes + 1)) W); simp only [Act.put, List.setIfInBounds_toArray, List.set_cons_zero, List.set_cons_succ]) | ((with_reducible refine wpList_build_obs 25 1 elem_flt HUX.out [fltCells (⟨1, wrap64 (d.writes + 1), 0, 0, 0, 0⟩ : Flt)] ?_ ?_ ?_ ?_ ?_ ?_); (exact (List.forall_mem_cons.2 ⟨rfl, (fun _ h => absurd h List.not_mem_nil)⟩)); (exact Nat.succ_pos _); (simp only [List.length_cons, List.length_nil]; omega); (exact rfl); (simp only [List.map_toArray, List.map_cons, List.map_nil, List.zipIdx_cons, List.zipIdx_nil]; exact rfl); simp only [Act.put, List.setIfInBounds_toArray, List.set_cons_zero, List.set_cons_succ]) | ((with_reducible refine wpList_append_dr ((HQ.out).put 29 (([fltCells (⟨1, wrap64 (d.writes + 1), 0, 0, 0, 0⟩ : Flt)] : List (List Value)).flatMap id)) (.tmp 59) (.tmp 64) 25 4 (v := (.slice af l.length cf)) (e := 29) (z := 6) (n := l.length) (xs := fltRow l) ?_ 5 (b := (wr.heap.size)) (t' := 29) (ys := ([fltCells (⟨1, wrap64 (d.writes + 1), 0, 0, 0, 0⟩ : Flt)] : List (List Value)).flatMap id) ?_ HUX.out elem_flt 1 1 ?_ ?_ ?_ ?_ ?_ ?_); (exact rfl); (exact rfl); (exact rfl); (exact rfl); (exact rfl); (exact (one_flt _)); (exact (by have := HLt.out; omega))))
          intro v71 w71 hs hnil
          have HS72 : Hid (DrH w C [.ob (w.heap.size) 27 (dvCells (.slice a1 d.pages.length c1) (⟨d.pages, d.writes, d.unread, d.dead, l⟩ : Dv) (.slice a2 d.unread.length c2) (.slice af l.length cf)), .ob B1 27 (dvCells nilS dvNil nilS nilS), .sl ((.slice a1 d.pages.length c1)) 9 1 ((⟨d.pages, d.writes, d.unread, d.dead, l⟩ : Dv).pages.length) (strRow (⟨d.pages, d.writes, d.unread, d.dead, l⟩ : Dv).pages), .sl ((.slice a2 d.unread.length c2)) 3 1 ((⟨d.pages, d.writes, d.unread, d.dead, l⟩ : Dv).unread.length) (intRow (⟨d.pages, d.writes, d.unread, d.dead, l⟩ : Dv).unread), .sl v71 29 6 (l.length + 1) ((fltRow l) ++ (([fltCells (⟨1, wrap64 (d.writes + 1), 0, 0, 0, 0⟩ : Flt)] : List (List Value)).flatMap id)), .ob (wr.heap.size) 29 (([fltCells (⟨1, wrap64 (d.writes + 1), 0, 0, 0, 0⟩ : Flt)] : List (List Value)).flatMap id)] w71) := hs
          clear hs
          clear HQ
          generalize wr.heap.size = B2 at *
          obtain ⟨ag, cg, rfl⟩ := own_slice (HS72.out.own 4 rfl)
          clear b4 b1
          have b4 : w71.cell? ⟨w.heap.size, 4, none⟩ = some (.slice af l.length cf) := HS72.out.at 0 rfl 4 rfl
          have f4 : w71.frozen? ⟨w.heap.size, 4, none⟩ = false := HS72.out.frozen 0 rfl 4
          have hset := (HS72.out).set 0 rfl 4 (.slice ag (l.length + 1) cg)
          have hset2 : DrH w C [.ob (w.heap.size) 27 (dvCells (.slice a1 d.pages.length c1) (⟨d.pages, d.writes, d.unread, d.dead, l⟩ : Dv) (.slice a2 d.unread.length c2) (.slice ag (l.length + 1) cg)), .ob B1 27 (dvCells nilS dvNil nilS nilS), .sl ((.slice a1 d.pages.length c1)) 9 1 ((⟨d.pages, d.writes, d.unread, d.dead, l⟩ : Dv).pages.length) (strRow (⟨d.pages, d.writes, d.unread, d.dead, l⟩ : Dv).pages), .sl ((.slice a2 d.unread.length c2)) 3 1 ((⟨d.pages, d.writes, d.unread, d.dead, l⟩ : Dv).unread.length) (intRow (⟨d.pages, d.writes, d.unread, d.dead, l⟩ : Dv).unread), .sl ((.slice ag (l.length + 1) cg)) 29 6 ((l.length + 1)) ((fltRow l ++ ([fltCells (⟨1, wrap64 (d.writes + 1), 0, 0, 0, 0⟩ : Flt)] : List (List Value)).flatMap id))] _ := hset.pull [0, 1, 2, 3, 4] rfl (pull_nd hset.nd [0, 1, 2, 3, 4] rfl (by decide))
          have HSet := Lib.hid hset2
          clear hset hset2
          have hh : DrH w C [.ob (w.heap.size) 27 (dvCells (.slice a1 d.pages.length c1) (⟨d.pages, d.writes, d.unread, d.dead, l ++ [(⟨1, wrap64 (d.writes + 1), 0, 0, 0, 0⟩ : Flt)]⟩ : Dv) (.slice a2 d.unread.length c2) (.slice ag (l.length + 1) cg)), .ob B1 27 (dvCells nilS dvNil nilS nilS), .sl ((.slice a1 d.pages.length c1)) 9 1 ((⟨d.pages, d.writes, d.unread, d.dead, l ++ [(⟨1, wrap64 (d.writes + 1), 0, 0, 0, 0⟩ : Flt)]⟩ : Dv).pages.length) (strRow (⟨d.pages, d.writes, d.unread, d.dead, l ++ [(⟨1, wrap64 (d.writes + 1), 0, 0, 0, 0⟩ : Flt)]⟩ : Dv).pages), .sl ((.slice a2 d.unread.length c2)) 3 1 ((⟨d.pages, d.writes, d.unread, d.dead, l ++ [(⟨1, wrap64 (d.writes + 1), 0, 0, 0, 0⟩ : Flt)]⟩ : Dv).unread.length) (intRow (⟨d.pages, d.writes, d.unread, d.dead, l ++ [(⟨1, wrap64 (d.writes + 1), 0, 0, 0, 0⟩ : Flt)]⟩ : Dv).unread), .sl ((.slice ag (l.length + 1) cg)) 29 6 ((⟨d.pages, d.writes, d.unread, d.dead, l ++ [(⟨1, wrap64 (d.writes + 1), 0, 0, 0, 0⟩ : Flt)]⟩ : Dv).faults.length) (fltRow (⟨d.pages, d.writes, d.unread, d.dead, l ++ [(⟨1, wrap64 (d.writes + 1), 0, 0, 0, 0⟩ : Flt)]⟩ : Dv).faults)] (w71.setCell ⟨w.heap.size, 4, none⟩ (.slice ag (l.length + 1) cg)) := by
            show DrH w C [_, _, _, _, .sl _ _ _ (l ++ [(⟨1, wrap64 (d.writes + 1), 0, 0, 0, 0⟩ : Flt)]).length (fltRow (l ++ [(⟨1, wrap64 (d.writes + 1), 0, 0, 0, 0⟩ : Flt)]))] _
            rw [List.length_append, fltRow_snoc]
            exact HSet.out
          have HH := Lib.hid hh
          clear hh HSet
          go_wp2_with fail
          go_roundw
          case rel => exact ⟨l ++ [(⟨1, wrap64 (d.writes + 1), 0, 0, 0, 0⟩ : Flt)], .slice ag (l.length + 1) cg, fun x hx => (List.mem_append.1 hx).elim (HGl.out x) (fun h => by rw [List.mem_singleton.1 h]; exact HAt.out), by have := HLt.out; simp; omega, HH.out⟩
          case measure => rw [HH.out.at 0 rfl 4 rfl, HQ0.out]; have := HLt.out; show 65 - (l.length + 1) < 65 - l.length; omega
        · have hli : ¬ (l.length : Int) ≤ 64 := by omega
          clear hlt
          go_wp2_with fail
          go_meet
          exact ⟨(⟨d.pages, d.writes, d.unread, d.dead, l⟩ : Dv), (.slice a1 d.pages.length c1), (.slice a2 d.unread.length c2), (.slice af l.length cf), ⟨HGl.out, HG.out.pages, HG.out.unread⟩, by have := HLn.out; show d.pages.length ≤ 71; omega, by have := HLl.out; show l.length ≤ 136; omega, HQ.out⟩
  case rest =>
    obtain ⟨d1, p, u, f, hgd, hl1, hl2, hs⟩ := hcut
    clear HS3
    obtain ⟨b1, k1, rfl⟩ := own_slice (hs.own 2 rfl)
    obtain ⟨b2, k2, rfl⟩ := own_slice (hs.own 3 rfl)
    obtain ⟨b3, k3, rfl⟩ := own_slice (hs.own 4 rfl)
    have HS40 := Lib.hid hs
    clear hs
    generalize wc = w40 at *
    go_wp2_with (first | ((with_reducible refine wpList_load_ob 27 (.tmp 3) (w.heap.size) (dvCells (.slice b1 d1.pages.length k1) d1 (.slice b2 d1.unread.length k2) (.slice b3 d1.faults.length k3)) 27 HUD.out ?_ ?_ ?_ ?_ ?_); (exact rfl); (exact (HS40.out).get 0 rfl); (exact rfl); (exact info_dv); simp only [Act.put, List.setIfInBounds_toArray, List.set_cons_zero, List.set_cons_succ]) | ((with_reducible refine wpList_store_ob 27 (.tmp 4) B1 (dvCells (.slice b1 d1.pages.length k1) d1 (.slice b2 d1.unread.length k2) (.slice b3 d1.faults.length k3)) (dvCells nilS dvNil nilS nilS) 27 ?_ ?_ ?_ ?_ ?_ ?_ ?_); (exact rfl); (exact rfl); (exact (HS40.out).get 1 rfl); (exact info_dv); (exact rfl); (exact (oneCell_dv _ _ _ _ _ _ _ _ _ _)); skip))
    have HS42 : Hid (DrH w C [.ob (w.heap.size) 27 (dvCells (.slice b1 d1.pages.length k1) d1 (.slice b2 d1.unread.length k2) (.slice b3 d1.faults.length k3)), .ob B1 27 (dvCells (.slice b1 d1.pages.length k1) d1 (.slice b2 d1.unread.length k2) (.slice b3 d1.faults.length k3)), .sl ((.slice b1 d1.pages.length k1)) 9 1 (d1.pages.length) (strRow d1.pages), .sl ((.slice b2 d1.unread.length k2)) 3 1 (d1.unread.length) (intRow d1.unread), .sl ((.slice b3 d1.faults.length k3)) 29 6 (d1.faults.length) (fltRow d1.faults)] (w40.setRow B1 (dvCells (.slice b1 d1.pages.length k1) d1 (.slice b2 d1.unread.length k2) (.slice b3 d1.faults.length k3)).toArray)) := (HS40.out).row 1 rfl (dvCells (.slice b1 d1.pages.length k1) d1 (.slice b2 d1.unread.length k2) (.slice b3 d1.faults.length k3))
    clear HS40
    generalize (w40.setRow B1 (dvCells (.slice b1 d1.pages.length k1) d1 (.slice b2 d1.unread.length k2) (.slice b3 d1.faults.length k3)).toArray) = w42 at *
    refine bodyPost_ret (results_ob Try.results16 _ _ B1 (dvCells (.slice b1 d1.pages.length k1) d1 (.slice b2 d1.unread.length k2) (.slice b3 d1.faults.length k3)) 27 _ rfl ((HS42.out).get 1 rfl) HUD.out rfl info_dv) rfl ?_
    obtain ⟨R', hrd, hin, hnew⟩ := own_dv (d := d1) ((HS42.out).own 2 rfl) ((HS42.out).own 3 rfl) ((HS42.out).own 4 rfl)
    exact ⟨d1, _, _, _, R', rfl, hgd, hl1, hl2, hrd, hin, hnew, (HS42.out).bes, (HS42.out).codes⟩
end Go.Proofs.Ythcjkbhkidijoaa
/- the walk of the law's 'small' -/
namespace Go.Proofs.Ythcjkbhkidijoaa
open Go.RowKit
set_option maxRecDepth 20000
set_option linter.unusedSimpArgs false
set_option linter.unusedVariables false

def smallB (n m k : Nat) : Bool := decide ((n : Int) ≤ 70) && (decide ((m : Int) ≤ 70) && decide ((k : Int) ≤ 70))
set_option maxHeartbeats 8000000 in
theorem small_any (n m k : Nat) (wr : Int) (dd : Bool) (pa ua fa : Option Addr) (pc uc fc : Nat) (w : World) :
    Calls Try.prog 10 #[.agg #[.slice pa n pc, .int .i64 wr, .slice ua m uc, .bool dd, .slice fa k fc]] w fun e w' => e = .returned (.bool (smallB n m k)) ∧ Below w.heap.size w w' := by
  have fin : Hid (∀ W, W = (w.alloc (.cells #[.slice pa n pc, .int .i64 wr, .slice ua m uc, .bool dd, .slice fa k fc] 27)) → Below w.heap.size w W) := by
    rintro W rfl
    exact (Below.refl _ _).alloc (Nat.le_refl _) _
  by_cases c1 : (n : Int) ≤ 70
  case neg =>
    have HF : Hid (smallB n m k = false) := by show _ = _; unfold smallB; rw [decide_eq_false c1]; rfl
    go_enter Try.func10, Try.ntmps10
    go_wp2
    go_ret
    exact ⟨by rw [HF.out]; rfl, fin.out _ rfl⟩
  case pos =>
  by_cases c2 : (m : Int) ≤ 70
  case neg =>
    have HF : Hid (smallB n m k = false) := by show _ = _; unfold smallB; rw [decide_eq_false c2]; simp
    go_enter Try.func10, Try.ntmps10
    go_wp2
    go_ret
    exact ⟨by rw [HF.out]; rfl, fin.out _ rfl⟩
  case pos =>
  by_cases c3 : (k : Int) ≤ 70
  case neg =>
    have HF : Hid (smallB n m k = false) := by show _ = _; unfold smallB; rw [decide_eq_false c3]; simp
    go_enter Try.func10, Try.ntmps10
    go_wp2
    go_ret
    exact ⟨by rw [HF.out]; rfl, fin.out _ rfl⟩
  case pos =>
    have HF : Hid (smallB n m k = true) := by show _ = _; unfold smallB; rw [decide_eq_true c1, decide_eq_true c2, decide_eq_true c3]; rfl
    go_enter Try.func10, Try.ntmps10
    go_wp2
    go_ret
    exact ⟨by rw [HF.out]; rfl, fin.out _ rfl⟩
end Go.Proofs.Ythcjkbhkidijoaa
/- the reference's Tear -/
namespace Go.Proofs.Ythcjkbhkidijoaa
open Go.RowKit
set_option maxRecDepth 20000
set_option linter.unusedSimpArgs false
set_option linter.unusedVariables false

set_option maxHeartbeats 16000000 in
theorem rtear_any {p u f : Value} {d : Dv} {R : List Rng} (page : Int) (s : ByteArray) (cut : Int) (w : World) (h : DvRd p u f d R) (hR : RdIn w R) (hg : GoodDv d) (hss : s.size ≤ maxLen) (hp : d.pages.length ≤ 1000) (hf : d.faults.length ≤ 1000) :
    Calls Try.prog 28 #[.agg (dvCells p d u f).toArray, .int .i64 page, .string s, .int .i64 cut] w (DvPost w R (tearR d page s cut)) := by
  have HV : Hid (∀ W, Below w.heap.size w W → Calls Try.prog 47 #[.agg (dvCells p d u f).toArray, .int .i64 page] W fun e w' => e = .returned (.int .i64 (usableR d page)) ∧ Below W.heap.size W w') := fun W hb => rusable_any page W h (hR.below hb) hg
  have HCp : Hid (∀ W, Below w.heap.size w W → Calls Try.prog 36 #[.agg (dvCells p d u f).toArray] W fun e w' => ∃ v, e = .returned v ∧ OwnDv W w' v d) := fun W hb => copy_any W h (hR.below hb) hp hg.unread hf
  obtain ⟨fs, hud⟩ := under_dv
  have HUD := Lib.hid hud
  obtain ⟨fs2, huf⟩ := under_flt
  have HUF := Lib.hid huf
  clear hud huf
  obtain ⟨pa, pc, rfl, hp1, hp3, hP2⟩ := h.pages.open hR
  obtain ⟨ua, uc, rfl, hu1, hu3, hU2⟩ := h.unread.open hR
  obtain ⟨fa, fc, rfl, hf1, hf3, hF2⟩ := h.faults.open hR
  clear h hR hg hP2 hU2 hF2 hf hp
  have h1 := ((Hp.start w).put 27 (dvCells (.slice pa d.pages.length pc) d (.slice ua d.unread.length uc) (.slice fa d.faults.length fc))).put 27 (dvCells nilS dvNil nilS nilS)
  simp only [World.size_alloc, List.nil_append, List.cons_append] at h1
  have HS0 : Hid (Hp w [.ob w.heap.size 27 (dvCells (.slice pa d.pages.length pc) d (.slice ua d.unread.length uc) (.slice fa d.faults.length fc)), .ob (w.heap.size + 1) 27 (dvCells nilS dvNil nilS nilS)] ((w.alloc (.cells (dvCells (.slice pa d.pages.length pc) d (.slice ua d.unread.length uc) (.slice fa d.faults.length fc)).toArray 27)).alloc (.cells #[.slice none 0 0, .int .i64 0, .slice none 0 0, .bool false, .slice none 0 0] 27))) := h1
  clear h1 hp1 hp3 hu1 hu3 hf1 hf3
  have hsm : (s.size : Int) ≤ 9223372036854775807 := by unfold maxLen at hss; omega
  clear hss
  go_enter Try.func28, Try.ntmps28
  go_wp2_with (first | ((with_reducible refine wpList_load_ob 27 (.tmp 4) (w.heap.size) (dvCells (.slice pa d.pages.length pc) d (.slice ua d.unread.length uc) (.slice fa d.faults.length fc)) 27 HUD.out ?_ ?_ ?_ ?_ ?_); (exact rfl); (exact (HS0.out).get 0 rfl); (exact rfl); (exact info_dv); simp only [Act.put, List.setIfInBounds_toArray, List.set_cons_zero, List.set_cons_succ]))
  refine (HV.out _ (HS0.out).old).mono ?_
  rintro e w3 ⟨rfl, hb⟩
  have HS2 : Hid (Hp w [.ob (w.heap.size) 27 (dvCells (.slice pa d.pages.length pc) d (.slice ua d.unread.length uc) (.slice fa d.faults.length fc)), .ob ((w.heap.size + 1)) 27 (dvCells nilS dvNil nilS nilS)] w3) := (HS0.out).calls hb
  clear hb
  clear HS0
  generalize (w.heap.size + 1) = B1 at *
  clear HV
  by_cases hv : usableR d page = 0
  case neg =>
    have HX := Lib.hid hv
    have hq : (usableR d page != 0) = true := by rw [bne_iff_ne]; exact hv
    clear hv
    go_wp2_with (first | ((with_reducible refine wpList_build_v 27 (.agg (dvCells nilS dvNil nilS nilS).toArray) ?_ ?_); (intro W; simp only [List.map_toArray, List.map_cons, List.map_nil]; exact build_dv0 W); simp only [Act.put, List.setIfInBounds_toArray, List.set_cons_zero, List.set_cons_succ]) | ((with_reducible refine wpList_store_ob 27 (.tmp 8) B1 (dvCells nilS dvNil nilS nilS) (dvCells nilS dvNil nilS nilS) 27 ?_ ?_ ?_ ?_ ?_ ?_ ?_); (exact rfl); (exact rfl); (exact (HS2.out).get 1 rfl); (exact info_dv); (exact rfl); (exact (oneCell_dv _ _ _ _ _ _ _ _ _ _)); skip))
    have HS3 : Hid (Hp w [.ob (w.heap.size) 27 (dvCells (.slice pa d.pages.length pc) d (.slice ua d.unread.length uc) (.slice fa d.faults.length fc)), .ob B1 27 (dvCells nilS dvNil nilS nilS)] (w3.setRow B1 (dvCells nilS dvNil nilS nilS).toArray)) := (HS2.out).row 1 rfl (dvCells nilS dvNil nilS nilS)
    clear HS2
    generalize (w3.setRow B1 (dvCells nilS dvNil nilS nilS).toArray) = w4 at *
    refine bodyPost_ret (results_ob_tmp Try.results28 _ _ B1 (dvCells nilS dvNil nilS nilS) 27 _ rfl (HS3.out.get 1 rfl) HUD.out rfl info_dv) rfl ?_
    exact DvPost.none (by unfold tearR; rw [if_pos HX.out]) HS3.out.old
  case pos =>
    have HX : Hid (¬ usableR d page ≠ 0) := fun h => h hv
    have hq : (usableR d page != 0) = false := by rw [hv]; rfl
    obtain ⟨hok, hdd, g0, g1⟩ := usable_ok hv
    have HOk := Lib.hid (ok_inv hok)
    obtain ⟨k, rfl⟩ := Int.eq_ofNat_of_zero_le g0
    have HKn : Hid (k < d.pages.length) := by show _ < _; omega
    clear hv hok hdd g0 g1
    by_cases hc1 : cut < 0
    case pos =>
      have HY := Lib.hid hc1
      go_wp2_with (first | ((with_reducible refine wpList_build_v 27 (.agg (dvCells nilS dvNil nilS nilS).toArray) ?_ ?_); (intro W; simp only [List.map_toArray, List.map_cons, List.map_nil]; exact build_dv0 W); simp only [Act.put, List.setIfInBounds_toArray, List.set_cons_zero, List.set_cons_succ]) | ((with_reducible refine wpList_store_ob 27 (.tmp 8) B1 (dvCells nilS dvNil nilS nilS) (dvCells nilS dvNil nilS nilS) 27 ?_ ?_ ?_ ?_ ?_ ?_ ?_); (exact rfl); (exact rfl); (exact (HS2.out).get 1 rfl); (exact info_dv); (exact rfl); (exact (oneCell_dv _ _ _ _ _ _ _ _ _ _)); skip))
      have HS3 : Hid (Hp w [.ob (w.heap.size) 27 (dvCells (.slice pa d.pages.length pc) d (.slice ua d.unread.length uc) (.slice fa d.faults.length fc)), .ob B1 27 (dvCells nilS dvNil nilS nilS)] (w3.setRow B1 (dvCells nilS dvNil nilS nilS).toArray)) := (HS2.out).row 1 rfl (dvCells nilS dvNil nilS nilS)
      clear HS2
      generalize (w3.setRow B1 (dvCells nilS dvNil nilS nilS).toArray) = w4 at *
      refine bodyPost_ret (results_ob_tmp Try.results28 _ _ B1 (dvCells nilS dvNil nilS nilS) 27 _ rfl (HS3.out.get 1 rfl) HUD.out rfl info_dv) rfl ?_
      exact DvPost.none (by unfold tearR; rw [if_neg HX.out, if_pos (.inl HY.out)]) HS3.out.old
    case neg =>
      by_cases hc2 : 256 < cut
      case pos =>
        have HY := Lib.hid hc2
        go_wp2_with (first | ((with_reducible refine wpList_build_v 27 (.agg (dvCells nilS dvNil nilS nilS).toArray) ?_ ?_); (intro W; simp only [List.map_toArray, List.map_cons, List.map_nil]; exact build_dv0 W); simp only [Act.put, List.setIfInBounds_toArray, List.set_cons_zero, List.set_cons_succ]) | ((with_reducible refine wpList_store_ob 27 (.tmp 8) B1 (dvCells nilS dvNil nilS nilS) (dvCells nilS dvNil nilS nilS) 27 ?_ ?_ ?_ ?_ ?_ ?_ ?_); (exact rfl); (exact rfl); (exact (HS2.out).get 1 rfl); (exact info_dv); (exact rfl); (exact (oneCell_dv _ _ _ _ _ _ _ _ _ _)); skip))
        have HS3 : Hid (Hp w [.ob (w.heap.size) 27 (dvCells (.slice pa d.pages.length pc) d (.slice ua d.unread.length uc) (.slice fa d.faults.length fc)), .ob B1 27 (dvCells nilS dvNil nilS nilS)] (w3.setRow B1 (dvCells nilS dvNil nilS nilS).toArray)) := (HS2.out).row 1 rfl (dvCells nilS dvNil nilS nilS)
        clear HS2
        generalize (w3.setRow B1 (dvCells nilS dvNil nilS nilS).toArray) = w4 at *
        refine bodyPost_ret (results_ob_tmp Try.results28 _ _ B1 (dvCells nilS dvNil nilS nilS) 27 _ rfl (HS3.out.get 1 rfl) HUD.out rfl info_dv) rfl ?_
        exact DvPost.none (by unfold tearR; rw [if_neg HX.out, if_pos (.inr HY.out)]) HS3.out.old
      case neg =>
        obtain ⟨t, rfl⟩ := Int.eq_ofNat_of_zero_le (show 0 ≤ cut by omega)
        have HT : Hid (t ≤ 256) := by show _ ≤ _; omega
        have HY : Hid (¬ ((t : Int) < 0 ∨ 256 < (t : Int))) := fun h => h.elim hc1 hc2
        have ht0 : (0 : Int) ≤ (t : Int) := by omega
        have ht1 : (t : Int) ≤ 256 := by omega
        clear hc1 hc2
        by_cases hz : s.size = 256
        case neg =>
          have HZ := Lib.hid hz
          have hqs : ((s.size : Int) != 256) = true := by rw [bne_iff_ne]; omega
          clear hz
          go_wp2_with (first | ((with_reducible refine wpList_build_v 27 (.agg (dvCells nilS dvNil nilS nilS).toArray) ?_ ?_); (intro W; simp only [List.map_toArray, List.map_cons, List.map_nil]; exact build_dv0 W); simp only [Act.put, List.setIfInBounds_toArray, List.set_cons_zero, List.set_cons_succ]) | ((with_reducible refine wpList_store_ob 27 (.tmp 8) B1 (dvCells nilS dvNil nilS nilS) (dvCells nilS dvNil nilS nilS) 27 ?_ ?_ ?_ ?_ ?_ ?_ ?_); (exact rfl); (exact rfl); (exact (HS2.out).get 1 rfl); (exact info_dv); (exact rfl); (exact (oneCell_dv _ _ _ _ _ _ _ _ _ _)); skip))
          have HS3 : Hid (Hp w [.ob (w.heap.size) 27 (dvCells (.slice pa d.pages.length pc) d (.slice ua d.unread.length uc) (.slice fa d.faults.length fc)), .ob B1 27 (dvCells nilS dvNil nilS nilS)] (w3.setRow B1 (dvCells nilS dvNil nilS nilS).toArray)) := (HS2.out).row 1 rfl (dvCells nilS dvNil nilS nilS)
          clear HS2
          generalize (w3.setRow B1 (dvCells nilS dvNil nilS nilS).toArray) = w4 at *
          refine bodyPost_ret (results_ob_tmp Try.results28 _ _ B1 (dvCells nilS dvNil nilS nilS) 27 _ rfl (HS3.out.get 1 rfl) HUD.out rfl info_dv) rfl ?_
          exact DvPost.none (by unfold tearR; rw [if_neg HX.out, if_neg HY.out, if_pos HZ.out]) HS3.out.old
        case pos =>
          have HZ : Hid (¬ s.size ≠ 256) := fun h => h hz
          have HSz := Lib.hid hz
          have hts : (t : Int) ≤ (s.size : Int) := by omega
          have hqs : ((s.size : Int) != 256) = false := by rw [hz]; rfl
          clear hz
          go_wp2_with (first | ((with_reducible refine wpList_load_ob 27 (.tmp 4) (w.heap.size) (dvCells (.slice pa d.pages.length pc) d (.slice ua d.unread.length uc) (.slice fa d.faults.length fc)) 27 HUD.out ?_ ?_ ?_ ?_ ?_); (exact rfl); (exact (HS2.out).get 0 rfl); (exact rfl); (exact info_dv); simp only [Act.put, List.setIfInBounds_toArray, List.set_cons_zero, List.set_cons_succ]))
          refine (HCp.out _ (HS2.out).old).mono ?_
          rintro e w20 ⟨v, rfl, p', u', f', rfl, hk⟩
          obtain ⟨a1, c1, rfl⟩ := own_slice (hk.own 0 rfl)
          obtain ⟨a2, c2, rfl⟩ := own_slice (hk.own 1 rfl)
          obtain ⟨a3, c3, rfl⟩ := own_slice (hk.own 2 rfl)
          have HS3 : Hid (Hp w [.ob (w.heap.size) 27 (dvCells (.slice pa d.pages.length pc) d (.slice ua d.unread.length uc) (.slice fa d.faults.length fc)), .ob B1 27 (dvCells nilS dvNil nilS nilS), .sl ((.slice a1 d.pages.length c1)) 9 1 (d.pages.length) (strRow d.pages), .sl ((.slice a2 d.unread.length c2)) 3 1 (d.unread.length) (intRow d.unread), .sl ((.slice a3 d.faults.length c3)) 29 6 (d.faults.length) (fltRow d.faults)] w20) := (HS2.out).join hk (three_sl (sl_plain _ _ _ _ _) (sl_plain _ _ _ _ _) (sl_plain _ _ _ _ _))
          clear HS2
          clear HCp hk
          have HS6 : Hid (Hp w [.sl (.slice a1 d.pages.length c1) 9 1 d.pages.length (strRow d.pages), .sl (.slice a2 d.unread.length c2) 3 1 d.unread.length (intRow d.unread), .ob w.heap.size 27 (dvCells (.slice pa d.pages.length pc) d (.slice ua d.unread.length uc) (.slice fa d.faults.length fc)), .ob B1 27 (dvCells nilS dvNil nilS nilS), .sl (.slice a3 d.faults.length c3) 29 6 d.faults.length (fltRow d.faults)] w20) := HS3.out.pull [2, 3, 0, 1, 4] rfl (pull_nd HS3.out.nd [2, 3, 0, 1, 4] rfl (by decide))
          clear HS3
          have hput := place_any (fa := a3) (fl := d.faults.length) (fc := c3) s k t HS6.out HKn.out HOk.out.1.all HSz.out HT.out (by have := HOk.out.1.few; omega)
          go_wp2_with fail
          refine hput.mono ?_
          rintro e w12 ⟨u12, rfl, h12⟩
          have HFz : Hid ((placeR d k s t).faults = d.faults) := rfl
          have HRes : Hid (tearR d k s t = (placeR d k s t, 0)) := by
            show _ = _
            unfold tearR
            rw [if_neg HX.out, if_neg HY.out, if_neg HZ.out, Int.toNat_natCast]
          generalize placeR d k s t = dz at *
          have HY2 := Lib.hid h12
          clear hput h12 HS6
          obtain ⟨az, cz, rfl⟩ := own_slice (HY2.out.own 1 rfl)
          go_wp2_with (first | ((with_reducible refine wpList_store_ob 27 (.tmp 8) B1 (dvCells (.slice a1 d.pages.length c1) dz (.slice az dz.unread.length cz) (.slice a3 d.faults.length c3)) (dvCells nilS dvNil nilS nilS) 27 ?_ ?_ ?_ ?_ ?_ ?_ ?_); (exact rfl); (exact rfl); (exact HY2.out.get 3 rfl); (exact info_dv); (exact rfl); (exact (oneCell_dv _ _ _ _ _ _ _ _ _ _)); skip))
          have HF : Hid (Hp w [.sl (.slice a1 d.pages.length c1) 9 1 dz.pages.length (strRow dz.pages), .sl (.slice az dz.unread.length cz) 3 1 dz.unread.length (intRow dz.unread), .ob w.heap.size 27 (dvCells (.slice pa d.pages.length pc) d (.slice ua d.unread.length uc) (.slice fa d.faults.length fc)), .ob B1 27 (dvCells (.slice a1 d.pages.length c1) dz (.slice az dz.unread.length cz) (.slice a3 d.faults.length c3)), .sl (.slice a3 d.faults.length c3) 29 6 d.faults.length (fltRow d.faults)] (w12.setRow B1 (dvCells (.slice a1 d.pages.length c1) dz (.slice az dz.unread.length cz) (.slice a3 d.faults.length c3)).toArray)) := HY2.out.row 3 rfl (dvCells (.slice a1 d.pages.length c1) dz (.slice az dz.unread.length cz) (.slice a3 d.faults.length c3))
          clear HY2
          generalize w12.setRow B1 (dvCells (.slice a1 d.pages.length c1) dz (.slice az dz.unread.length cz) (.slice a3 d.faults.length c3)).toArray = w15 at *
          refine bodyPost_ret (results_ob_tmp Try.results28 _ _ B1 (dvCells (.slice a1 d.pages.length c1) dz (.slice az dz.unread.length cz) (.slice a3 d.faults.length c3)) 27 _ rfl (HF.out.get 3 rfl) HUD.out rfl info_dv) rfl ?_
          obtain ⟨R', hrd, hin, hnew⟩ := own_dv (d := dz) (HF.out.own 0 rfl) (HF.out.own 1 rfl) (by rw [HFz.out]; exact HF.out.own 4 rfl)
          rw [HRes.out]
          exact ⟨_, _, _, R', rfl, hrd, hin, fun r hr => .inl (hnew r hr), HF.out.old⟩
end Go.Proofs.Ythcjkbhkidijoaa
/- the reference's Replace -/
namespace Go.Proofs.Ythcjkbhkidijoaa
open Go.RowKit
set_option maxRecDepth 20000
set_option linter.unusedSimpArgs false
set_option linter.unusedVariables false

theorem rblanks_k (n : Nat) (w : World) (hn : n ≤ 64) :
    Calls Try.prog 35 #[.int .i64 (n : Int)] w fun e w' => ∃ v, e = .returned v ∧ Below w.heap.size w w' ∧ w'.ownsRow w.heap.size 9 1 v n (strRow (List.replicate n blankPg)) :=
  (blanks_any n w hn).mono fun _ _ ⟨v, h1, h2, h3⟩ => ⟨v, h1, h2, by rw [List.length_replicate] at h3; exact h3⟩
set_option maxHeartbeats 16000000 in
theorem rreplace_any {p u f : Value} {d : Dv} {R : List Rng} (w : World) (h : DvRd p u f d R) (hR : RdIn w R) (hg : GoodDv d) (hf : d.faults.length ≤ 1000) :
    Calls Try.prog 30 #[.agg (dvCells p d u f).toArray] w (DvPost w R (replaceR d)) := by
  have HV : Hid (∀ W, Below w.heap.size w W → Calls Try.prog 23 #[.agg (dvCells p d u f).toArray] W fun e w' => e = .returned (.bool (dvOkB d)) ∧ Below W.heap.size W w') := fun W hb => rvalid_any W h (hR.below hb) hg.faults hg.pages hg.unread
  have HFr := Lib.hid h.faults
  have HR := Lib.hid hR
  have HLf := Lib.hid hf
  have HUX : Hid (Try.prog.underlying 25 = some (.slice 29)) := Try.underlying25
  obtain ⟨fs, hud⟩ := under_dv
  have HUD := Lib.hid hud
  obtain ⟨fs2, huf⟩ := under_flt
  have HUF := Lib.hid huf
  clear hud huf
  obtain ⟨pa, pc, rfl, hp1, hp3, hP2⟩ := h.pages.open hR
  obtain ⟨ua, uc, rfl, hu1, hu3, hU2⟩ := h.unread.open hR
  obtain ⟨fa, fc, rfl, hf1, hf3, hF2⟩ := h.faults.open hR
  clear h hR hg hP2 hU2 hF2 hf
  have h1 := ((Hp.start w).put 27 (dvCells (.slice pa d.pages.length pc) d (.slice ua d.unread.length uc) (.slice fa d.faults.length fc))).put 27 (dvCells nilS dvNil nilS nilS)
  simp only [World.size_alloc, List.nil_append, List.cons_append] at h1
  have HS0 : Hid (Hp w [.ob w.heap.size 27 (dvCells (.slice pa d.pages.length pc) d (.slice ua d.unread.length uc) (.slice fa d.faults.length fc)), .ob (w.heap.size + 1) 27 (dvCells nilS dvNil nilS nilS), .sl nilS 29 6 0 []] ((w.alloc (.cells (dvCells (.slice pa d.pages.length pc) d (.slice ua d.unread.length uc) (.slice fa d.faults.length fc)).toArray 27)).alloc (.cells #[.slice none 0 0, .int .i64 0, .slice none 0 0, .bool false, .slice none 0 0] 27))) := h1.nil 29 6
  clear h1 hp1 hp3 hu1 hu3 hf1 hf3
  go_enter Try.func30, Try.ntmps30
  go_wp2_with (first | ((with_reducible refine wpList_load_ob 27 (.tmp 1) (w.heap.size) (dvCells (.slice pa d.pages.length pc) d (.slice ua d.unread.length uc) (.slice fa d.faults.length fc)) 27 HUD.out ?_ ?_ ?_ ?_ ?_); (exact rfl); (exact (HS0.out).get 0 rfl); (exact rfl); (exact info_dv); simp only [Act.put, List.setIfInBounds_toArray, List.set_cons_zero, List.set_cons_succ]))
  refine (HV.out _ (HS0.out).old).mono ?_
  rintro e w3 ⟨rfl, hb⟩
  have HS2 : Hid (Hp w [.ob (w.heap.size) 27 (dvCells (.slice pa d.pages.length pc) d (.slice ua d.unread.length uc) (.slice fa d.faults.length fc)), .ob ((w.heap.size + 1)) 27 (dvCells nilS dvNil nilS nilS), .sl nilS 29 6 (0) ([])] w3) := (HS0.out).calls hb
  clear hb
  clear HS0
  generalize (w.heap.size + 1) = B1 at *
  clear HV
  cases hv : dvOkB d
  case false =>
    have HX : Hid (dvOkB d = false) := hv
    clear hv
    go_wp2_with (first | ((with_reducible refine wpList_build_v 27 (.agg (dvCells nilS dvNil nilS nilS).toArray) ?_ ?_); (intro W; simp only [List.map_toArray, List.map_cons, List.map_nil]; exact build_dv0 W); simp only [Act.put, List.setIfInBounds_toArray, List.set_cons_zero, List.set_cons_succ]) | ((with_reducible refine wpList_store_ob 27 (.tmp 2) B1 (dvCells nilS dvNil nilS nilS) (dvCells nilS dvNil nilS nilS) 27 ?_ ?_ ?_ ?_ ?_ ?_ ?_); (exact rfl); (exact rfl); (exact (HS2.out).get 1 rfl); (exact info_dv); (exact rfl); (exact (oneCell_dv _ _ _ _ _ _ _ _ _ _)); skip))
    have HS3 : Hid (Hp w [.ob (w.heap.size) 27 (dvCells (.slice pa d.pages.length pc) d (.slice ua d.unread.length uc) (.slice fa d.faults.length fc)), .ob B1 27 (dvCells nilS dvNil nilS nilS), .sl nilS 29 6 (0) ([])] (w3.setRow B1 (dvCells nilS dvNil nilS nilS).toArray)) := (HS2.out).row 1 rfl (dvCells nilS dvNil nilS nilS)
    clear HS2
    generalize (w3.setRow B1 (dvCells nilS dvNil nilS nilS).toArray) = w4 at *
    refine bodyPost_ret (results_ob_tmp Try.results30 _ _ B1 (dvCells nilS dvNil nilS nilS) 27 _ rfl (HS3.out.get 1 rfl) HUD.out rfl info_dv) rfl ?_
    exact DvPost.none (by unfold replaceR; rw [if_pos HX.out]) HS3.out.old
  case true =>
    have HX : Hid (¬ dvOkB d = false) := by show ¬ _; rw [hv]; decide
    have HOk := Lib.hid (ok_inv hv)
    have HOk2 : Hid (1 ≤ d.pages.length ∧ d.pages.length ≤ 64) := by
      have h1 := (ok_inv hv).2.1
      unfold dvOkB numsB at hv
      simp only [Bool.and_eq_true, Bool.not_eq_true', decide_eq_false_iff_not] at hv
      exact ⟨by omega, h1⟩
    clear hv
    go_upto_region 3 with (fail)
    refine wp_region_held_drew (S := fun w' => Hold w.heap.size [.ob (w.heap.size) 27 (dvCells (.slice pa d.pages.length pc) d (.slice ua d.unread.length uc) (.slice fa d.faults.length fc))] w') (by kernel_rfl) ((HS2.out).drew.pick [0] rfl) (fun hHeld => ?_)
    refine wpAnyH_take (i := 0) (oi := { dst := some 8, op := Op.fieldAddr 27 (Operand.tmp 1) 0, type := 0, pos := "ref.go:225", after := #[], guard := none }) (v := ?q1v) rfl (by kernel_rfl) (by kernel_rfl) (by kernel_rfl) (fun _ _ _ h => h) (Or.inl ⟨by rfl, ?q1h⟩) hHeld ?q1r
    case q1h => (intro wq hSw; clear hSw; go_simp; try with_reducible rfl)
    try simp only [Act.put, List.setIfInBounds_toArray, List.set_cons_zero, List.set_cons_succ]
    refine wpAnyH_take (i := 1) (oi := { dst := some 9, op := Op.load 23 (Operand.tmp 8), type := 23, pos := "ref.go:225", after := #[{ on := 0, ground := Ground.data }], guard := none }) (v := ?q2v) rfl (by kernel_rfl) (by kernel_rfl) (by kernel_rfl) (fun _ _ _ h => h) (Or.inl ⟨by rfl, ?q2h⟩) hHeld ?q2r
    case q2h => (intro wq hSw; have b0 := hSw.at 0 rfl 0 rfl; clear hSw; go_simp; try with_reducible rfl)
    try simp only [Act.put, List.setIfInBounds_toArray, List.set_cons_zero, List.set_cons_succ]
    refine wpAnyH_take (i := 2) (oi := { dst := some 10, op := Op.call { callee := Callee.builtin Builtin.len, args := #[Operand.tmp 9], argTypes := #[23] }, type := 3, pos := "ref.go:225", after := #[{ on := 1, ground := Ground.data }], guard := none }) (v := ?q3v) rfl (by kernel_rfl) (by kernel_rfl) (by kernel_rfl) (fun _ _ _ h => h) (Or.inl ⟨by rfl, ?q3h⟩) hHeld ?q3r
    case q3h => (intro wq hSw; clear hSw; go_simp; try with_reducible rfl)
    try simp only [Act.put, List.setIfInBounds_toArray, List.set_cons_zero, List.set_cons_succ]
    refine wpAnyH_take (i := 4) (oi := { dst := some 12, op := Op.fieldAddr 27 (Operand.tmp 1) 1, type := 0, pos := "ref.go:225", after := #[], guard := none }) (v := ?q4v) rfl (by kernel_rfl) (by kernel_rfl) (by kernel_rfl) (fun _ _ _ h => h) (Or.inl ⟨by rfl, ?q4h⟩) hHeld ?q4r
    case q4h => (intro wq hSw; clear hSw; go_simp; try with_reducible rfl)
    try simp only [Act.put, List.setIfInBounds_toArray, List.set_cons_zero, List.set_cons_succ]
    refine wpAnyH_take (i := 5) (oi := { dst := some 13, op := Op.load 3 (Operand.tmp 12), type := 3, pos := "ref.go:225", after := #[{ on := 4, ground := Ground.data }], guard := none }) (v := ?q5v) rfl (by kernel_rfl) (by kernel_rfl) (by kernel_rfl) (fun _ _ _ h => h) (Or.inl ⟨by rfl, ?q5h⟩) hHeld ?q5r
    case q5h => (intro wq hSw; have b1 := hSw.at 0 rfl 1 rfl; clear hSw; go_simp; try with_reducible rfl)
    try simp only [Act.put, List.setIfInBounds_toArray, List.set_cons_zero, List.set_cons_succ]
    refine wpAnyH_take (i := 6) (oi := { dst := some 14, op := Op.fieldAddr 27 (Operand.tmp 1) 4, type := 0, pos := "ref.go:225", after := #[], guard := none }) (v := ?q6v) rfl (by kernel_rfl) (by kernel_rfl) (by kernel_rfl) (fun _ _ _ h => h) (Or.inl ⟨by rfl, ?q6h⟩) hHeld ?q6r
    case q6h => (intro wq hSw; clear hSw; go_simp; try with_reducible rfl)
    try simp only [Act.put, List.setIfInBounds_toArray, List.set_cons_zero, List.set_cons_succ]
    refine wpAnyH_take (i := 7) (oi := { dst := some 15, op := Op.load 25 (Operand.tmp 14), type := 25, pos := "ref.go:225", after := #[{ on := 6, ground := Ground.data }], guard := none }) (v := ?q7v) rfl (by kernel_rfl) (by kernel_rfl) (by kernel_rfl) (fun _ _ _ h => h) (Or.inl ⟨by rfl, ?q7h⟩) hHeld ?q7r
    case q7h => (intro wq hSw; have b4 := hSw.at 0 rfl 4 rfl; clear hSw; go_simp; try with_reducible rfl)
    try simp only [Act.put, List.setIfInBounds_toArray, List.set_cons_zero, List.set_cons_succ]
    refine wpAnyH_ready (rs := [3]) (by kernel_rfl) (by simp) ?_
    refine AllReadyH.cons (o := { dst := some 11, op := Op.call { callee := Callee.value (Operand.func 35), args := #[Operand.tmp 10], argTypes := #[3] }, type := 23, pos := "ref.go:225", after := #[{ on := 2, ground := Ground.data }], guard := none }) rfl (fun K hK => ?_) (AllReadyH.nil)
    go_simp
    go_wp2_with (go_at_call 35; refine (rblanks_k d.pages.length _ HOk2.out.2).mono ?_; rintro e w4 ⟨vp, rfl, hb, ho⟩)
    obtain ⟨ap, cp, rfl⟩ := own_slice ho
    have HS3 : Hid (Hp w [.ob (w.heap.size) 27 (dvCells (.slice pa d.pages.length pc) d (.slice ua d.unread.length uc) (.slice fa d.faults.length fc)), .ob B1 27 (dvCells nilS dvNil nilS nilS), .sl nilS 29 6 (0) ([]), .sl ((.slice ap d.pages.length cp)) 9 1 (d.pages.length) (strRow (List.replicate d.pages.length blankPg))] w4) := ((HS2.out).drew).addown hb ho
    refine hK.out _ _ (HS3.out.pick [0] rfl) (fun hHeld => ?_)
    clear hK K hb ho
    try simp only [Act.put, List.setIfInBounds_toArray, List.set_cons_zero, List.set_cons_succ]
    refine wpAnyH_ready (rs := [8]) (by kernel_rfl) (by simp) ?_
    refine AllReadyH.cons (o := { dst := some 16, op := Op.call { callee := Callee.builtin Builtin.append, args := #[Operand.const (Value.slice none 0 0), Operand.tmp 15], argTypes := #[25, 25] }, type := 25, pos := "ref.go:225", after := #[{ on := 7, ground := Ground.data }, { on := 3, ground := Ground.chain }], guard := none }) rfl (fun K hK => ?_) (AllReadyH.nil)
    rw [if_pos (by rfl)]
    refine wp_append_sl (HS3.out) (.const (.slice none 0 0)) (.tmp 15) 25 rfl 2 (v := .slice none 0 0) (n := 0) (xs := []) rfl (xv := .slice fa d.faults.length fc) (m := d.faults.length) (ys := fltRow d.faults) (R := R) HFr.out (HR.out.below (HS3.out).old) HUX.out elem_flt rfl rfl (one_flts _) (by have := HLf.out; omega) ?_
    intro vf w5 hs
    have hs2 : Hp w [.ob (w.heap.size) 27 (dvCells (.slice pa d.pages.length pc) d (.slice ua d.unread.length uc) (.slice fa d.faults.length fc)), .ob B1 27 (dvCells nilS dvNil nilS nilS), .sl vf 29 6 ((0 + d.faults.length)) ([] ++ fltRow d.faults), .sl ((.slice ap d.pages.length cp)) 9 1 (d.pages.length) (strRow (List.replicate d.pages.length blankPg))] w5 := hs
    clear hs
    rw [Nat.zero_add, List.nil_append] at hs2
    obtain ⟨af, cf, rfl⟩ := own_slice (hs2.own 2 rfl)
    have HS4 : Hid (Hp w [.ob (w.heap.size) 27 (dvCells (.slice pa d.pages.length pc) d (.slice ua d.unread.length uc) (.slice fa d.faults.length fc)), .ob B1 27 (dvCells nilS dvNil nilS nilS), .sl ((.slice af d.faults.length cf)) 29 6 (d.faults.length) (fltRow d.faults), .sl ((.slice ap d.pages.length cp)) 9 1 (d.pages.length) (strRow (List.replicate d.pages.length blankPg))] w5) := hs2
    refine hK.out _ _ (HS4.out.pick [0] rfl) (fun hHeld => ?_)
    clear hK K hs2
    try simp only [Act.put, List.setIfInBounds_toArray, List.set_cons_zero, List.set_cons_succ]
    refine wpAnyH_take (i := 9) (oi := { dst := some 17, op := Op.build 27 #[(0, Operand.tmp 11), (1, Operand.tmp 13), (4, Operand.tmp 16)], type := 27, pos := "ref.go:225", after := #[{ on := 3, ground := Ground.data }, { on := 5, ground := Ground.data }, { on := 8, ground := Ground.data }], guard := none }) rfl (by kernel_rfl) (by kernel_rfl) (by kernel_rfl) (fun _ _ _ h => h) (yieldsIf_build_v (by rfl) 27 (.agg (dvCells (.slice ap d.pages.length cp) (⟨List.replicate d.pages.length blankPg, d.writes, [], false, d.faults⟩ : Dv) nilS (.slice af d.faults.length cf)).toArray) rfl (fun W => by simp only [List.map_toArray, List.map_cons, List.map_nil]; exact build_dv2 _ _ _ _ _ _ _ (⟨List.replicate d.pages.length blankPg, d.writes, [], false, d.faults⟩ : Dv) rfl rfl W)) hHeld ?_
    try simp only [Act.put, List.setIfInBounds_toArray, List.set_cons_zero, List.set_cons_succ]
    refine wpAnyH_ready (rs := [10]) (by kernel_rfl) (by simp) ?_
    refine AllReadyH.cons (o := { dst := none, op := Op.store 27 (Operand.tmp 2) (Operand.tmp 17), type := 0, pos := "ref.go:225", after := #[{ on := 9, ground := Ground.data }, { on := 8, ground := Ground.chain }, { on := 0, ground := Ground.phase }, { on := 1, ground := Ground.phase }, { on := 2, ground := Ground.phase }, { on := 3, ground := Ground.phase }, { on := 4, ground := Ground.phase }, { on := 5, ground := Ground.phase }, { on := 6, ground := Ground.phase }, { on := 7, ground := Ground.phase }, { on := 8, ground := Ground.phase }, { on := 9, ground := Ground.phase }], guard := none }) rfl (fun K hK => ?_) (AllReadyH.nil)
    rw [if_pos (by rfl)]
    refine wp_store_ob 27 (.tmp 2) (.tmp 17) B1 (dvCells (.slice ap d.pages.length cp) (⟨List.replicate d.pages.length blankPg, d.writes, [], false, d.faults⟩ : Dv) nilS (.slice af d.faults.length cf)) (dvCells nilS dvNil nilS nilS) 27 rfl rfl rfl rfl ((HS4.out).get 1 rfl) (info_dv) (rfl) ((oneCell_dv _ _ _ _ _ _ _ _ _ _)) ?_
    have HS5 : Hid (Hp w [.ob (w.heap.size) 27 (dvCells (.slice pa d.pages.length pc) d (.slice ua d.unread.length uc) (.slice fa d.faults.length fc)), .ob B1 27 (dvCells (.slice ap d.pages.length cp) (⟨List.replicate d.pages.length blankPg, d.writes, [], false, d.faults⟩ : Dv) nilS (.slice af d.faults.length cf)), .sl ((.slice af d.faults.length cf)) 29 6 (d.faults.length) (fltRow d.faults), .sl ((.slice ap d.pages.length cp)) 9 1 (d.pages.length) (strRow (List.replicate d.pages.length blankPg))] (w5.setRow B1 (dvCells (.slice ap d.pages.length cp) (⟨List.replicate d.pages.length blankPg, d.writes, [], false, d.faults⟩ : Dv) nilS (.slice af d.faults.length cf)).toArray)) := (HS4.out).row 1 rfl (dvCells (.slice ap d.pages.length cp) (⟨List.replicate d.pages.length blankPg, d.writes, [], false, d.faults⟩ : Dv) nilS (.slice af d.faults.length cf))
    refine hK.out _ _ (HS5.out.pick [0] rfl) (fun hHeld => ?_)
    clear hK K
    generalize (w5.setRow B1 (dvCells (.slice ap d.pages.length cp) (⟨List.replicate d.pages.length blankPg, d.writes, [], false, d.faults⟩ : Dv) nilS (.slice af d.faults.length cf)).toArray) = w6 at *
    try simp only [Act.put, List.setIfInBounds_toArray, List.set_cons_zero, List.set_cons_succ]
    refine wpAnyH_take (i := 11) (oi := { dst := some 3, op := Op.assign (Operand.const (Value.int IntKind.i64 0)), type := 35, pos := "ref.go:225", after := #[{ on := 10, ground := Ground.chain }, { on := 0, ground := Ground.phase }, { on := 1, ground := Ground.phase }, { on := 2, ground := Ground.phase }, { on := 3, ground := Ground.phase }, { on := 4, ground := Ground.phase }, { on := 5, ground := Ground.phase }, { on := 6, ground := Ground.phase }, { on := 7, ground := Ground.phase }, { on := 8, ground := Ground.phase }, { on := 9, ground := Ground.phase }, { on := 10, ground := Ground.phase }], guard := none }) (v := ?q9v) rfl (by kernel_rfl) (by kernel_rfl) (by kernel_rfl) (fun _ _ _ h => h) (Or.inl ⟨by rfl, ?q9h⟩) hHeld ?q9r
    case q9h => (intro wq hSw; clear hSw; go_simp; try with_reducible rfl)
    try simp only [Act.put, List.setIfInBounds_toArray, List.set_cons_zero, List.set_cons_succ]
    refine wpAnyH_done (by kernel_rfl) ?_ _
    go_wp2_with fail
    refine bodyPost_ret (results_ob_tmp Try.results30 _ _ B1 (dvCells (.slice ap d.pages.length cp) (⟨List.replicate d.pages.length blankPg, d.writes, [], false, d.faults⟩ : Dv) nilS (.slice af d.faults.length cf)) 27 _ rfl (HS5.out.get 1 rfl) HUD.out rfl info_dv) rfl ?_
    have hpo := HS5.out.own 3 rfl
    obtain ⟨R', hrd, hin, hnew⟩ := own_dv (u := nilS) (d := (⟨List.replicate d.pages.length blankPg, d.writes, [], false, d.faults⟩ : Dv)) (B := w.heap.size) (by rw [List.length_replicate]; exact hpo) ⟨rfl, .inl ⟨rfl, rfl⟩⟩ (HS5.out.own 2 rfl)
    have hres : replaceR d = ((⟨List.replicate d.pages.length blankPg, d.writes, [], false, d.faults⟩ : Dv), 0) := by unfold replaceR; rw [if_neg HX.out]
    rw [hres]
    exact ⟨_, _, _, R', rfl, hrd, hin, fun r hr => .inl (hnew r hr), HS5.out.old⟩
end Go.Proofs.Ythcjkbhkidijoaa
/- the reference's Same, of two values that read as the same device -/
namespace Go.Proofs.Ythcjkbhkidijoaa
open Go.RowKit
set_option maxRecDepth 20000
set_option linter.unusedSimpArgs false
set_option linter.unusedVariables false

theorem flt_self {a : Flt} (ha : GoodFlt a) (W : World) : Sem.run Try.prog (binOp .neq 29 (.agg (fltCells a).toArray) (.agg (fltCells a).toArray)) W = .ok (.bool false) W := by
  have := run_neq (equal_flt a a ha ha) W
  rw [sameV_iff.2 rfl] at this
  exact this
set_option maxHeartbeats 8000000 in
theorem same_dv {p u f p' u' f' : Value} {d : Dv} {R R' : List Rng} (w : World) (h : DvRd p u f d R) (hR : RdIn w R) (h' : DvRd p' u' f' d R') (hR' : RdIn w R') (hg : GoodDv d) (hp : d.pages.length ≤ 1000) (hf : d.faults.length ≤ 1000) :
    Calls Try.prog 15 #[.agg (dvCells p d u f).toArray, .agg (dvCells p' d u' f').toArray] w fun e w' => e = .returned (.bool true) ∧ Below w.heap.size w w' := by
  have HLp := Lib.hid hp
  have HLu := Lib.hid hg.unread
  have HLf := Lib.hid hf
  have HGf := Lib.hid hg.faults
  obtain ⟨pa, pc, rfl, _, _, HPa⟩ := h.pages.open hR
  obtain ⟨ua, uc, rfl, _, _, HUa⟩ := h.unread.open hR
  obtain ⟨fa, fc, rfl, _, _, HFa⟩ := h.faults.open hR
  obtain ⟨pb, qc, rfl, _, _, HPb⟩ := h'.pages.open hR'
  obtain ⟨ub, vc, rfl, _, _, HUb⟩ := h'.unread.open hR'
  obtain ⟨fb, gc, rfl, _, _, HFb⟩ := h'.faults.open hR'
  obtain ⟨fs, hud⟩ := under_dv
  have HUD := Lib.hid hud
  obtain ⟨fs2, huf⟩ := under_flt
  have HUF := Lib.hid huf
  clear hud huf
  clear h hR h' hR' hg hp hf
  have h1 := ((Hp.start w).put 27 (dvCells (.slice pa d.pages.length pc) d (.slice ua d.unread.length uc) (.slice fa d.faults.length fc))).put 27 (dvCells (.slice pb d.pages.length qc) d (.slice ub d.unread.length vc) (.slice fb d.faults.length gc))
  simp only [World.size_alloc, List.nil_append, List.cons_append] at h1
  have HQ : Hid (Hp w [.ob w.heap.size 27 (dvCells (.slice pa d.pages.length pc) d (.slice ua d.unread.length uc) (.slice fa d.faults.length fc)), .ob (w.heap.size + 1) 27 (dvCells (.slice pb d.pages.length qc) d (.slice ub d.unread.length vc) (.slice fb d.faults.length gc))] ((w.alloc (.cells (dvCells (.slice pa d.pages.length pc) d (.slice ua d.unread.length uc) (.slice fa d.faults.length fc)).toArray 27)).alloc (.cells (dvCells (.slice pb d.pages.length qc) d (.slice ub d.unread.length vc) (.slice fb d.faults.length gc)).toArray 27))) := h1
  clear h1
  go_enter Try.func15, Try.ntmps15
  go_upto_region 1 with (fail)
  generalize (w.alloc (.cells (dvCells (.slice pa d.pages.length pc) d (.slice ua d.unread.length uc) (.slice fa d.faults.length fc)).toArray 27)).alloc (.cells (dvCells (.slice pb d.pages.length qc) d (.slice ub d.unread.length vc) (.slice fb d.faults.length gc)).toArray 27) = w1 at *
  generalize w.heap.size + 1 = b3 at *
  have a0 := HQ.out.at 0 rfl 0 rfl
  have z0 := HQ.out.at 1 rfl 0 rfl
  have a1 := HQ.out.at 0 rfl 1 rfl
  have z1 := HQ.out.at 1 rfl 1 rfl
  have a2 := HQ.out.at 0 rfl 2 rfl
  have z2 := HQ.out.at 1 rfl 2 rfl
  have a3 := HQ.out.at 0 rfl 3 rfl
  have z3 := HQ.out.at 1 rfl 3 rfl
  have a4 := HQ.out.at 0 rfl 4 rfl
  have z4 := HQ.out.at 1 rfl 4 rfl
  go_wp2_with fail
  clear a0 a1 a2 a3 a4 z0 z1 z2 z3 z4
  go_loopw [5] (fun si wr => ∃ i : Nat, i ≤ d.pages.length ∧ si = .int .i64 i ∧ Hp w [.ob w.heap.size 27 (dvCells (.slice pa d.pages.length pc) d (.slice ua d.unread.length uc) (.slice fa d.faults.length fc)), .ob b3 27 (dvCells (.slice pb d.pages.length qc) d (.slice ub d.unread.length vc) (.slice fb d.faults.length gc))] wr) (fun si _ => d.pages.length - (intOf si).toNat)
  case atStart => exact ⟨0, Nat.zero_le _, rfl, HQ.out⟩
  case round =>
    obtain ⟨i, hi, rfl, hs⟩ := hrel
    clear HQ
    have HQ := Lib.hid hs
    clear hs
    have c0 := HQ.out.at 0 rfl 0 rfl
    have hi0 : (0 : Int) ≤ (i : Int) := by omega
    have him : (i : Int) ≤ 1000 := by have := HLp.out; omega
    by_cases hlt : i < d.pages.length
    · have hii : (i : Int) < (d.pages.length : Int) := by omega
      have HLt := Lib.hid hlt
      obtain ⟨g, og, ha, hr⟩ := HPa.out (by omega)
      obtain ⟨g2, og2, hb, hr2⟩ := HPb.out (by omega)
      go_upto_region 6 with (fail)
      clear c0
      have q0 : wr.drew.cell? ⟨w.heap.size, 0, none⟩ = some (.slice (some ⟨g, og, none⟩) d.pages.length pc) := by rw [← ha]; exact HQ.out.drew.at 0 rfl 0 rfl
      have q1 : wr.drew.cell? ⟨b3, 0, none⟩ = some (.slice (some ⟨g2, og2, none⟩) d.pages.length qc) := by rw [← hb]; exact HQ.out.drew.at 1 rfl 0 rfl
      have q2 := hr _ HQ.out.drew.old i _ (strRow_at d.pages i hlt)
      have q3 := hr2 _ HQ.out.drew.old i _ (strRow_at d.pages i hlt)
      have HX := Lib.hid HQ.out.drew
      clear ha hb hr hr2 hi
      generalize d.pages[i] = y at *
      clear hlt
      go_region
      clear q0 q1 q2 q3
      generalize wr.drew = w2 at *
      go_wp2_with fail
      go_roundw
      case rel => exact ⟨i + 1, HLt.out, by go_num, HX.out⟩
      case measure => simp [intOf]; try (have := HLt.out; omega)
    · have hii : ¬ (i : Int) < (d.pages.length : Int) := by omega
      clear hlt hi
      go_wp2_with fail
      clear c0 hii him hi0
      go_loopw [6] (fun si wr => ∃ i : Nat, i ≤ d.unread.length ∧ si = .int .i64 i ∧ Hp w [.ob w.heap.size 27 (dvCells (.slice pa d.pages.length pc) d (.slice ua d.unread.length uc) (.slice fa d.faults.length fc)), .ob b3 27 (dvCells (.slice pb d.pages.length qc) d (.slice ub d.unread.length vc) (.slice fb d.faults.length gc))] wr) (fun si _ => d.unread.length - (intOf si).toNat)
      case atStart => exact ⟨0, Nat.zero_le _, rfl, HQ.out⟩
      case round =>
        obtain ⟨i, hi, rfl, hs⟩ := hrel
        clear HQ
        have HQ := Lib.hid hs
        clear hs
        have c0 := HQ.out.at 0 rfl 2 rfl
        have hi0 : (0 : Int) ≤ (i : Int) := by omega
        have him : (i : Int) ≤ 1000 := by have := HLu.out; omega
        by_cases hlt : i < d.unread.length
        · have hii : (i : Int) < (d.unread.length : Int) := by omega
          have HLt := Lib.hid hlt
          obtain ⟨g, og, ha, hr⟩ := HUa.out (by omega)
          obtain ⟨g2, og2, hb, hr2⟩ := HUb.out (by omega)
          go_upto_region 11 with (fail)
          clear c0
          have q0 : wr.drew.cell? ⟨w.heap.size, 2, none⟩ = some (.slice (some ⟨g, og, none⟩) d.unread.length uc) := by rw [← ha]; exact HQ.out.drew.at 0 rfl 2 rfl
          have q1 : wr.drew.cell? ⟨b3, 2, none⟩ = some (.slice (some ⟨g2, og2, none⟩) d.unread.length vc) := by rw [← hb]; exact HQ.out.drew.at 1 rfl 2 rfl
          have q2 := hr _ HQ.out.drew.old i _ (intRow_at d.unread i hlt)
          have q3 := hr2 _ HQ.out.drew.old i _ (intRow_at d.unread i hlt)
          have HX := Lib.hid HQ.out.drew
          clear ha hb hr hr2 hi
          generalize d.unread[i] = y at *
          clear hlt
          go_region
          clear q0 q1 q2 q3
          generalize wr.drew = w2 at *
          go_wp2_with fail
          go_roundw
          case rel => exact ⟨i + 1, HLt.out, by go_num, HX.out⟩
          case measure => simp [intOf]; try (have := HLt.out; omega)
        · have hii : ¬ (i : Int) < (d.unread.length : Int) := by omega
          clear hlt hi
          go_wp2_with fail
          clear c0 hii him hi0
          go_loopw [7] (fun si wr => ∃ i : Nat, i ≤ d.faults.length ∧ si = .int .i64 i ∧ Hp w [.ob w.heap.size 27 (dvCells (.slice pa d.pages.length pc) d (.slice ua d.unread.length uc) (.slice fa d.faults.length fc)), .ob b3 27 (dvCells (.slice pb d.pages.length qc) d (.slice ub d.unread.length vc) (.slice fb d.faults.length gc))] wr) (fun si _ => d.faults.length - (intOf si).toNat)
          case atStart => exact ⟨0, Nat.zero_le _, rfl, HQ.out⟩
          case round =>
            obtain ⟨i, hi, rfl, hs⟩ := hrel
            clear HQ
            have HQ := Lib.hid hs
            clear hs
            have c0 := HQ.out.at 0 rfl 4 rfl
            have hi0 : (0 : Int) ≤ (i : Int) := by omega
            have him : (i : Int) ≤ 1000 := by have := HLf.out; omega
            by_cases hlt : i < d.faults.length
            · have hii : (i : Int) < (d.faults.length : Int) := by omega
              have HLt := Lib.hid hlt
              obtain ⟨g, og, ha, hr⟩ := HFa.out (by omega)
              obtain ⟨g2, og2, hb, hr2⟩ := HFb.out (by omega)
              go_upto_region 16 with (fail)
              clear c0
              have q0 : wr.drew.cell? ⟨w.heap.size, 4, none⟩ = some (.slice (some ⟨g, og, none⟩) d.faults.length fc) := by rw [← ha]; exact HQ.out.drew.at 0 rfl 4 rfl
              have q1 : wr.drew.cell? ⟨b3, 4, none⟩ = some (.slice (some ⟨g2, og2, none⟩) d.faults.length gc) := by rw [← hb]; exact HQ.out.drew.at 1 rfl 4 rfl
              obtain ⟨x, hx⟩ : ∃ x, d.faults[i] = x := ⟨_, rfl⟩
              have hgx : GoodFlt x := by rw [← hx]; exact HGf.out _ (List.getElem_mem hlt)
              have q2 : wr.drew.rangeAt g (og + i * 6) (fltCells x) := fun j u hu => by rw [Nat.add_assoc]; exact hr _ HQ.out.drew.old (i * 6 + j) u (fltRow_at d.faults i hlt j u (hx.symm ▸ hu))
              have q3 : wr.drew.rangeAt g2 (og2 + i * 6) (fltCells x) := fun j u hu => by rw [Nat.add_assoc]; exact hr2 _ HQ.out.drew.old (i * 6 + j) u (fltRow_at d.faults i hlt j u (hx.symm ▸ hu))
              have HNx := Lib.hid (flt_self hgx)
              have HX := Lib.hid HQ.out.drew
              have HS9 : Hid (wr.drew.cell? ⟨w.heap.size, 4, none⟩ = some (.slice (some ⟨g, og, none⟩) d.faults.length fc) ∧ wr.drew.cell? ⟨b3, 4, none⟩ = some (.slice (some ⟨g2, og2, none⟩) d.faults.length gc) ∧ wr.drew.rangeAt g (og + i * 6) (fltCells x) ∧ wr.drew.rangeAt g2 (og2 + i * 6) (fltCells x)) := ⟨q0, q1, q2, q3⟩
              clear ha hb hr hr2 hi hx hgx q0 q1 q2 q3 hlt
              refine wp_region_held_drew (S := fun w' => w'.cell? ⟨w.heap.size, 4, none⟩ = some (.slice (some ⟨g, og, none⟩) d.faults.length fc) ∧ w'.cell? ⟨b3, 4, none⟩ = some (.slice (some ⟨g2, og2, none⟩) d.faults.length gc) ∧ w'.rangeAt g (og + i * 6) (fltCells x) ∧ w'.rangeAt g2 (og2 + i * 6) (fltCells x)) (by kernel_rfl) (HS9.out) (fun hHeld => ?_)
              refine wpAnyH_take (i := 0) (oi := { dst := some 90, op := Op.fieldAddr 27 (Operand.tmp 2) 4, type := 0, pos := "ref.go:258", after := #[], guard := none }) (v := ?q1v) rfl (by kernel_rfl) (by kernel_rfl) (by kernel_rfl) (fun _ _ _ h => h) (Or.inl ⟨by rfl, ?q1h⟩) hHeld ?q1r
              case q1h => (intro wq hSw; clear hSw; go_simp; try with_reducible rfl)
              try simp only [Act.put, List.setIfInBounds_toArray, List.set_cons_zero, List.set_cons_succ]
              refine wpAnyH_take (i := 1) (oi := { dst := some 91, op := Op.load 25 (Operand.tmp 90), type := 25, pos := "ref.go:258", after := #[{ on := 0, ground := Ground.data }], guard := none }) (v := ?q2v) rfl (by kernel_rfl) (by kernel_rfl) (by kernel_rfl) (fun _ _ _ h => h) (Or.inl ⟨by rfl, ?q2h⟩) hHeld ?q2r
              case q2h => (intro wq hSw; have q0 := hSw.1; clear hSw; go_simp; try with_reducible rfl)
              try simp only [Act.put, List.setIfInBounds_toArray, List.set_cons_zero, List.set_cons_succ]
              refine wpAnyH_take (i := 2) (oi := { dst := some 92, op := Op.move (Operand.tmp 7), type := 3, pos := "ref.go:258", after := #[], guard := none }) (v := ?q3v) rfl (by kernel_rfl) (by kernel_rfl) (by kernel_rfl) (fun _ _ _ h => h) (Or.inl ⟨by rfl, ?q3h⟩) hHeld ?q3r
              case q3h => (intro wq hSw; clear hSw; go_simp; try with_reducible rfl)
              try simp only [Act.put, List.setIfInBounds_toArray, List.set_cons_zero, List.set_cons_succ]
              refine wpAnyH_take (i := 3) (oi := { dst := some 93, op := Op.indexAddr 25 (Operand.tmp 91) (Operand.tmp 92), type := 0, pos := "ref.go:258", after := #[{ on := 1, ground := Ground.data }, { on := 2, ground := Ground.data }], guard := none }) (v := ?q4v) rfl (by kernel_rfl) (by kernel_rfl) (by kernel_rfl) (fun _ _ _ h => h) (Or.inl ⟨by rfl, ?q4h⟩) hHeld ?q4r
              case q4h => (intro wq hSw; clear hSw; go_simp; try with_reducible rfl)
              try simp only [Act.put, List.setIfInBounds_toArray, List.set_cons_zero, List.set_cons_succ]
              refine wpAnyH_take (i := 4) (oi := { dst := some 94, op := Op.load 29 (Operand.tmp 93), type := 29, pos := "ref.go:258", after := #[{ on := 3, ground := Ground.data }], guard := none }) rfl (by kernel_rfl) (by kernel_rfl) (by kernel_rfl) (fun _ _ _ h => h) (yieldsIf_load_mid (by rfl) 29 (.tmp 93) rfl g ((og + i * 6)) rfl (fltCells x) _ (fun _ h => h.2.2.1) HUF.out rfl (info_flt)) hHeld ?_
              try simp only [Act.put, List.setIfInBounds_toArray, List.set_cons_zero, List.set_cons_succ]
              refine wpAnyH_take (i := 5) (oi := { dst := some 95, op := Op.fieldAddr 27 (Operand.tmp 3) 4, type := 0, pos := "ref.go:258", after := #[], guard := none }) (v := ?q6v) rfl (by kernel_rfl) (by kernel_rfl) (by kernel_rfl) (fun _ _ _ h => h) (Or.inl ⟨by rfl, ?q6h⟩) hHeld ?q6r
              case q6h => (intro wq hSw; clear hSw; go_simp; try with_reducible rfl)
              try simp only [Act.put, List.setIfInBounds_toArray, List.set_cons_zero, List.set_cons_succ]
              refine wpAnyH_take (i := 6) (oi := { dst := some 96, op := Op.load 25 (Operand.tmp 95), type := 25, pos := "ref.go:258", after := #[{ on := 5, ground := Ground.data }], guard := none }) (v := ?q7v) rfl (by kernel_rfl) (by kernel_rfl) (by kernel_rfl) (fun _ _ _ h => h) (Or.inl ⟨by rfl, ?q7h⟩) hHeld ?q7r
              case q7h => (intro wq hSw; have q1 := hSw.2.1; clear hSw; go_simp; try with_reducible rfl)
              try simp only [Act.put, List.setIfInBounds_toArray, List.set_cons_zero, List.set_cons_succ]
              refine wpAnyH_take (i := 7) (oi := { dst := some 97, op := Op.move (Operand.tmp 7), type := 3, pos := "ref.go:258", after := #[], guard := none }) (v := ?q8v) rfl (by kernel_rfl) (by kernel_rfl) (by kernel_rfl) (fun _ _ _ h => h) (Or.inl ⟨by rfl, ?q8h⟩) hHeld ?q8r
              case q8h => (intro wq hSw; clear hSw; go_simp; try with_reducible rfl)
              try simp only [Act.put, List.setIfInBounds_toArray, List.set_cons_zero, List.set_cons_succ]
              refine wpAnyH_take (i := 8) (oi := { dst := some 98, op := Op.indexAddr 25 (Operand.tmp 96) (Operand.tmp 97), type := 0, pos := "ref.go:258", after := #[{ on := 6, ground := Ground.data }, { on := 7, ground := Ground.data }], guard := none }) (v := ?q9v) rfl (by kernel_rfl) (by kernel_rfl) (by kernel_rfl) (fun _ _ _ h => h) (Or.inl ⟨by rfl, ?q9h⟩) hHeld ?q9r
              case q9h => (intro wq hSw; clear hSw; go_simp; try with_reducible rfl)
              try simp only [Act.put, List.setIfInBounds_toArray, List.set_cons_zero, List.set_cons_succ]
              refine wpAnyH_take (i := 9) (oi := { dst := some 99, op := Op.load 29 (Operand.tmp 98), type := 29, pos := "ref.go:258", after := #[{ on := 8, ground := Ground.data }], guard := none }) rfl (by kernel_rfl) (by kernel_rfl) (by kernel_rfl) (fun _ _ _ h => h) (yieldsIf_load_mid (by rfl) 29 (.tmp 98) rfl g2 ((og2 + i * 6)) rfl (fltCells x) _ (fun _ h => h.2.2.2) HUF.out rfl (info_flt)) hHeld ?_
              try simp only [Act.put, List.setIfInBounds_toArray, List.set_cons_zero, List.set_cons_succ]
              refine wpAnyH_take (i := 10) (oi := { dst := some 100, op := Op.binOp BinOp.neq 29 (Operand.tmp 94) (Operand.tmp 99) 29, type := 4, pos := "ref.go:258", after := #[{ on := 4, ground := Ground.data }, { on := 9, ground := Ground.data }], guard := none }) (v := .bool false) rfl (by kernel_rfl) (by kernel_rfl) (by kernel_rfl) (fun _ _ _ h => h) (Or.inl ⟨by rfl, ?q11h⟩) hHeld ?q11r
              case q11h => (intro wq hSw; have q2 := HNx.out; clear hSw; go_simp; try with_reducible rfl)
              try simp only [Act.put, List.setIfInBounds_toArray, List.set_cons_zero, List.set_cons_succ]
              refine wpAnyH_done (by kernel_rfl) ?_ _
              clear hHeld
              generalize wr.drew = w2 at *
              go_wp2_with fail
              go_roundw
              case rel => exact ⟨i + 1, HLt.out, by go_num, HX.out⟩
              case measure => simp [intOf]; try (have := HLt.out; omega)
            · have hii : ¬ (i : Int) < (d.faults.length : Int) := by omega
              clear hlt hi
              go_wp2_with fail
              go_ret
              exact ⟨rfl, HQ.out.old⟩
end Go.Proofs.Ythcjkbhkidijoaa
/- the law's awake: the example of chapter 4 -/
namespace Go.Proofs.Ythcjkbhkidijoaa
open Go.RowKit
set_option maxRecDepth 20000
set_option linter.unusedSimpArgs false
set_option linter.unusedVariables false

def txt (B : ByteArray) (c : UInt8) : ByteArray := B ++ ⟨#[c]⟩
def fltLost : Flt := ⟨1, 2, 0, 0, 0, 0⟩
theorem awake_facts (a b : ByteArray) (ha : a.size = 256) (hb : b.size = 256) : ∃ d0 d1 d2 d3 : Dv, (newR 1 = (d0, 0) ∧ injectR d0 fltLost = (d1, 0) ∧ writeR d1 0 a = (d2, 0) ∧ writeR d2 0 b = (d3, 0) ∧ readR d3 0 = (a, 0)) ∧ DvOk d0 ∧ DvOk d1 ∧ DvOk d2 ∧ DvOk d3 := by
  obtain ⟨n1, n2⟩ := new_ok (n := 1) (by decide)
  have hgf : GoodFlt fltLost := ⟨by decide, by decide, by decide, by decide, by decide, by decide⟩
  obtain ⟨i1, i2⟩ := inject_ok n2 (x := fltLost) (by decide) hgf (by decide)
  have e0 : List.replicate 1 blankPg = [blankPg] := rfl
  rw [e0] at n1 n2 i1 i2
  generalize hbl : blankPg = B at *
  have hB : B.size = 256 := by rw [← hbl]; rfl
  obtain ⟨w1, w2⟩ := write_ok i2 rfl (k := 0) Nat.zero_lt_one ha (by show (0 : Int) ≠ 1099511627776; decide)
  have ew : writeR ⟨[B], 0, [], false, [] ++ [fltLost]⟩ ((0 : Nat) : Int) a = (⟨[a], 1, [], false, [fltLost]⟩, 0) := by
    rw [w1]
    have ea : a.extract 0 256 ++ B.extract 256 256 = a := by
      rw [extract_all a ha]
      apply ByteArray.ext
      simp
    show ((([fltLost] : List Flt).filter fun f => decide (f.at_ = (0 : Int) + 1)).foldl happenR (landR ⟨[B], 0 + 1, [], false, [fltLost].filter fun f => !decide (f.at_ = (0 : Int) + 1)⟩ ((0 : Nat) : Int) a (([fltLost] : List Flt).filter fun f => decide (f.at_ = (0 : Int) + 1))), (0 : Int)) = _
    show (placeR ⟨[B], 0 + 1, [], false, [fltLost]⟩ ((0 : Nat) : Int) a 256, (0 : Int)) = _
    unfold placeR
    show ((⟨[a.extract 0 256 ++ B.extract 256 256], 0 + 1, [], false, [fltLost]⟩ : Dv), (0 : Int)) = _
    rw [ea]
    rfl
  rw [ew] at w2
  obtain ⟨v1, v2⟩ := write_ok w2 rfl (k := 0) Nat.zero_lt_one hb (by show (1 : Int) ≠ 1099511627776; decide)
  have ev : writeR ⟨[a], 1, [], false, [fltLost]⟩ ((0 : Nat) : Int) b = (⟨[a], 2, [], false, []⟩, 0) := by
    rw [v1]
    rfl
  rw [ev] at v2
  refine ⟨_, _, _, _, ⟨n1, i1, ew, ev, ?_⟩, n2, i2, w2, v2⟩
  exact read_ok v2 rfl (k := 0) Nat.zero_lt_one (by simp)
theorem made255 : ∃ (L : List Value) (B : ByteArray), B.size = 255 ∧ (∀ w : World, Sem.run Try.prog (Instr.makeSlice 22 (.int .i64 255) (.int .i64 255)) w = .ok (.slice (some ⟨w.heap.size, 0, none⟩) 255 255) (w.alloc (.cells L.toArray 5))) ∧
    (∀ (w : World) (g : Nat), w.heap[g]? = some (.cells L.toArray 5 (0, 0)) → Sem.run Try.prog (convert 22 9 (.slice (some ⟨g, 0, none⟩) 255 255)) w = .ok (.string B) w) := by
  refine ⟨(List.replicate 255 (0 : UInt8)).map (fun b => Value.int .u8 (b.toNat : Int)), ⟨(List.replicate 255 (0 : UInt8)).toArray⟩, by show Array.size _ = _; simp, fun w => ?_, fun w g hg => ?_⟩
  · have hmk : Sem.run Try.prog (Instr.makeSlice 22 (.int .i64 255) (.int .i64 255)) w = .ok (.slice (some ⟨w.heap.size, 0, none⟩) 255 255) (w.alloc (.cells (madeCells #[.int .u8 0] 255) 5)) :=
      run_make_row' 22 5 (.int .u8 0) 1 Try.underlying22 info_byte rfl .i64 .i64 255 (by decide) (by decide) w
    rw [made_row] at hmk
    exact hmk
  · have hR : RowIn w g (List.replicate 255 (0 : UInt8)) := hg
    exact hR.conv 255 255 (len_rep 255).symm
theorem build_flt2 (a b : Int) (W : World) : Sem.run Try.prog (Instr.build 29 #[(0, .int .i64 a), (1, .int .i64 b)]) W = .ok (.agg (fltCells ⟨a, b, 0, 0, 0, 0⟩).toArray) W := by kernel_rfl
set_option maxHeartbeats 16000000 in
theorem awake4 (w : World) : Calls Try.prog 9 #[] w fun e w' => e = .returned (.bool true) ∧ Below w.heap.size w w' := by
  obtain ⟨L0, B0, hB0, hmk, hcv⟩ := made255
  obtain ⟨sa, hsa⟩ : ∃ sa, sa = B0 ++ (⟨#[97]⟩ : ByteArray) := ⟨_, rfl⟩
  obtain ⟨sb, hsb⟩ : ∃ sb, sb = B0 ++ (⟨#[98]⟩ : ByteArray) := ⟨_, rfl⟩
  have hza : sa.size = 256 := by rw [hsa, ByteArray.size_append, hB0]; rfl
  have hzb : sb.size = 256 := by rw [hsb, ByteArray.size_append, hB0]; rfl
  obtain ⟨d0, d1, d2, d3, ⟨e1, e2, e3, e4, e5⟩, o0, o1, o2, o3⟩ := awake_facts sa sb hza hzb
  have HE : Hid ((newR 1 = (d0, 0) ∧ injectR d0 fltLost = (d1, 0) ∧ writeR d1 0 sa = (d2, 0) ∧ writeR d2 0 sb = (d3, 0) ∧ readR d3 0 = (sa, 0)) ∧ DvOk d0 ∧ DvOk d1 ∧ DvOk d2 ∧ DvOk d3) := ⟨⟨e1, e2, e3, e4, e5⟩, o0, o1, o2, o3⟩
  have HMk := Lib.hid hmk
  have HCv := Lib.hid hcv
  have HZ : Hid (sa.size ≤ maxLen ∧ sb.size ≤ maxLen) := ⟨by rw [hza]; decide, by rw [hzb]; decide⟩
  have HSS : Hid (sa = B0 ++ (⟨#[97]⟩ : ByteArray) ∧ sb = B0 ++ (⟨#[98]⟩ : ByteArray)) := ⟨hsa, hsb⟩
  obtain ⟨fs, hud⟩ := under_dv
  have HUD := Lib.hid hud
  obtain ⟨fs2, huf⟩ := under_flt
  have HUF := Lib.hid huf
  clear hud huf
  have HFG : Hid (GoodFlt fltLost) := ⟨by decide, by decide, by decide, by decide, by decide, by decide⟩
  have HS0 : Hid (Hp w [] w) := Hp.start w
  have HB0 := Lib.hid hB0
  clear hmk hcv hsa hsb hza hzb e1 e2 e3 e4 e5 o0 o1 o2 o3 hB0
  go_enter Try.func9, Try.ntmps9
  go_wp2_with fail
  refine (dv_as HE.out.1.1 (new_dv 1 _)).mono ?_
  rintro e w3 ⟨p0, u0, f0, R0, rfl, hrd, hin, hnew, hb⟩
  obtain ⟨ap0, cp0, rfl, _⟩ := hrd.pages
  obtain ⟨au0, cu0, rfl, _⟩ := hrd.unread
  obtain ⟨af0, cf0, rfl, _⟩ := hrd.faults
  have HDv0 := Lib.hid hrd
  have HS1 : Hid (Hp w [.rd R0] w3) := (HS0.out).addrd hb R0 hin (fun r hr => (hnew r hr).elim .inl (fun h => absurd h List.not_mem_nil))
  clear hb hin hnew hrd
  clear HS0
  go_wp2_with (first | ((with_reducible refine wpList_alloc_ob 27 (dvCells nilS dvNil nilS nilS) ?_ ?_); (exact alloc_dv); simp only [Act.put, List.setIfInBounds_toArray, List.set_cons_zero, List.set_cons_succ]) | ((with_reducible refine wpList_store_ob 27 (.tmp 1) (w3.heap.size) (dvCells (.slice ap0 d0.pages.length cp0) d0 (.slice au0 d0.unread.length cu0) (.slice af0 d0.faults.length cf0)) (dvCells nilS dvNil nilS nilS) 27 ?_ ?_ ?_ ?_ ?_ ?_ ?_); (exact rfl); (exact rfl); (exact ((HS1.out).put 27 (dvCells nilS dvNil nilS nilS)).get 1 rfl); (exact info_dv); (exact rfl); (exact (oneCell_dv _ _ _ _ _ _ _ _ _ _)); skip) | ((with_reducible refine wpList_load_ob 27 (.tmp 1) (w3.heap.size) (dvCells (.slice ap0 d0.pages.length cp0) d0 (.slice au0 d0.unread.length cu0) (.slice af0 d0.faults.length cf0)) 27 HUD.out ?_ ?_ ?_ ?_ ?_); (exact rfl); (exact (((HS1.out).put 27 (dvCells nilS dvNil nilS nilS)).row 1 rfl (dvCells (.slice ap0 d0.pages.length cp0) d0 (.slice au0 d0.unread.length cu0) (.slice af0 d0.faults.length cf0))).get 1 rfl); (exact rfl); (exact info_dv); simp only [Act.put, List.setIfInBounds_toArray, List.set_cons_zero, List.set_cons_succ]) | ((with_reducible refine wpList_build_v 29 (.agg (fltCells fltLost).toArray) ?_ ?_); (intro W; simp only [List.map_toArray, List.map_cons, List.map_nil]; exact build_flt2 1 2 W); simp only [Act.put, List.setIfInBounds_toArray, List.set_cons_zero, List.set_cons_succ]))
  refine (dv_as HE.out.1.2.1 (inject_any fltLost _ HDv0.out ((((HS1.out).put 27 (dvCells nilS dvNil nilS nilS)).row 1 rfl (dvCells (.slice ap0 d0.pages.length cp0) d0 (.slice au0 d0.unread.length cu0) (.slice af0 d0.faults.length cf0))).reads 0 rfl) HE.out.2.1.goodDv HFG.out HE.out.2.1.pg HE.out.2.1.fl)).mono ?_
  rintro e w4 ⟨p1, u1, f1, R1, rfl, hrd, hin, hnew, hb⟩
  obtain ⟨ap1, cp1, rfl, _⟩ := hrd.pages
  obtain ⟨au1, cu1, rfl, _⟩ := hrd.unread
  obtain ⟨af1, cf1, rfl, _⟩ := hrd.faults
  have HDv1 := Lib.hid hrd
  have HS2 : Hid (Hp w [.rd R0, .ob (w3.heap.size) 27 (dvCells (.slice ap0 d0.pages.length cp0) d0 (.slice au0 d0.unread.length cu0) (.slice af0 d0.faults.length cf0)), .rd R1] w4) := (((HS1.out).put 27 (dvCells nilS dvNil nilS nilS)).row 1 rfl (dvCells (.slice ap0 d0.pages.length cp0) d0 (.slice au0 d0.unread.length cu0) (.slice af0 d0.faults.length cf0))).addrd hb R1 hin (fun r hr => (hnew r hr).elim .inl (fun h => .inr ⟨.rd R0, List.mem_of_getElem? (i := 0) rfl, List.mem_map.2 ⟨r, h, rfl⟩⟩))
  clear hb hin hnew hrd
  clear HS1
  generalize w3.heap.size = B1 at *
  go_upto_region 3 with (first | ((with_reducible refine wpList_store_ob 27 (.tmp 1) B1 (dvCells (.slice ap1 d1.pages.length cp1) d1 (.slice au1 d1.unread.length cu1) (.slice af1 d1.faults.length cf1)) (dvCells (.slice ap0 d0.pages.length cp0) d0 (.slice au0 d0.unread.length cu0) (.slice af0 d0.faults.length cf0)) 27 ?_ ?_ ?_ ?_ ?_ ?_ ?_); (exact rfl); (exact rfl); (exact (HS2.out).get 1 rfl); (exact info_dv); (exact rfl); (exact (oneCell_dv _ _ _ _ _ _ _ _ _ _)); skip))
  have HS3 : Hid (Hp w [.rd R0, .ob B1 27 (dvCells (.slice ap1 d1.pages.length cp1) d1 (.slice au1 d1.unread.length cu1) (.slice af1 d1.faults.length cf1)), .rd R1] (w4.setRow B1 (dvCells (.slice ap1 d1.pages.length cp1) d1 (.slice au1 d1.unread.length cu1) (.slice af1 d1.faults.length cf1)).toArray)) := (HS2.out).row 1 rfl (dvCells (.slice ap1 d1.pages.length cp1) d1 (.slice au1 d1.unread.length cu1) (.slice af1 d1.faults.length cf1))
  clear HS2
  generalize (w4.setRow B1 (dvCells (.slice ap1 d1.pages.length cp1) d1 (.slice au1 d1.unread.length cu1) (.slice af1 d1.faults.length cf1)).toArray) = w5 at *
  have HS4 : Hid (Hp w [.ob B1 27 (dvCells (.slice ap1 d1.pages.length cp1) d1 (.slice au1 d1.unread.length cu1) (.slice af1 d1.faults.length cf1)), .rd R1] w5) := HS3.out.pull [1, 2] rfl (pull_nd HS3.out.nd [1, 2] rfl (by decide))
  clear HS3
  have m1 : Sem.run Try.prog (Instr.makeSlice 22 (.int .i64 255) (.int .i64 255)) w5.drew = .ok (.slice (some ⟨w5.heap.size, 0, none⟩) 255 255) (w5.alloc (.cells L0.toArray 5)).drew := HMk.out w5.drew
  have m2 : Sem.run Try.prog (Instr.makeSlice 22 (.int .i64 255) (.int .i64 255)) (w5.alloc (.cells L0.toArray 5)).drew = .ok (.slice (some ⟨w5.heap.size + 1, 0, none⟩) 255 255) ((w5.alloc (.cells L0.toArray 5)).alloc (.cells L0.toArray 5)).drew := by
    have h := HMk.out (w5.alloc (.cells L0.toArray 5)).drew
    rw [show (w5.alloc (.cells L0.toArray 5)).drew.heap.size = w5.heap.size + 1 from by simp] at h
    exact h
  have q1 : Sem.run Try.prog (convert 22 9 (.slice (some ⟨w5.heap.size, 0, none⟩) 255 255)) (w5.alloc (.cells L0.toArray 5)).drew = .ok (.string B0) (w5.alloc (.cells L0.toArray 5)).drew := HCv.out _ _ (heap_alloc_last w5 _)
  have q2 : Sem.run Try.prog (convert 22 9 (.slice (some ⟨w5.heap.size, 0, none⟩) 255 255)) ((w5.alloc (.cells L0.toArray 5)).alloc (.cells L0.toArray 5)).drew = .ok (.string B0) ((w5.alloc (.cells L0.toArray 5)).alloc (.cells L0.toArray 5)).drew := HCv.out _ _ (by
    show (w5.heap.push _ |>.push _)[w5.heap.size]? = _
    rw [Array.getElem?_push, if_neg (by simp), Array.getElem?_push, if_pos rfl])
  have q3 : Sem.run Try.prog (convert 22 9 (.slice (some ⟨w5.heap.size + 1, 0, none⟩) 255 255)) ((w5.alloc (.cells L0.toArray 5)).alloc (.cells L0.toArray 5)).drew = .ok (.string B0) ((w5.alloc (.cells L0.toArray 5)).alloc (.cells L0.toArray 5)).drew := HCv.out _ _ (by
    show (w5.heap.push _ |>.push _)[w5.heap.size + 1]? = _
    rw [Array.getElem?_push, if_pos (by simp)])
  have hB255 : B0.size = 255 := HB0.out
  have hca : B0 ++ (⟨#[97]⟩ : ByteArray) = sa := HSS.out.1.symm
  have hcb : B0 ++ (⟨#[98]⟩ : ByteArray) = sb := HSS.out.2.symm
  have HS9 : Hid (Hp w [.ob B1 27 (dvCells (.slice ap1 d1.pages.length cp1) d1 (.slice au1 d1.unread.length cu1) (.slice af1 d1.faults.length cf1)), .rd R1] ((w5.alloc (.cells L0.toArray 5)).alloc (.cells L0.toArray 5)).drew) := (HS4.out.calls (((Below.refl w5.heap.size w5).alloc (Nat.le_refl _) _).alloc (by simp) _)).drew
  go_cut [4, 5] (fun s4 s5 wx => s4 = .string sa ∧ s5 = .string sb ∧ Hp w [.ob B1 27 (dvCells (.slice ap1 d1.pages.length cp1) d1 (.slice au1 d1.unread.length cu1) (.slice af1 d1.faults.length cf1)), .rd R1] wx)
  case first =>
    go_region
    all_goals (go_wp2_with fail; go_meet; exact ⟨rfl, rfl, HS9.out⟩)
  case rest =>
    obtain ⟨rfl, rfl, hs9⟩ := hcut
    clear m1 m2 q1 q2 q3 hB255 hca hcb HS9 HS4
    have HS10 := Lib.hid hs9
    clear hs9
    generalize wc = w50 at *
    go_wp2_with (first | ((with_reducible refine wpList_load_ob 27 (.tmp 1) B1 (dvCells (.slice ap1 d1.pages.length cp1) d1 (.slice au1 d1.unread.length cu1) (.slice af1 d1.faults.length cf1)) 27 HUD.out ?_ ?_ ?_ ?_ ?_); (exact rfl); (exact (HS10.out).get 0 rfl); (exact rfl); (exact info_dv); simp only [Act.put, List.setIfInBounds_toArray, List.set_cons_zero, List.set_cons_succ]))
    refine (dv_as HE.out.1.2.2.1 (write_any 0 sa _ HDv1.out ((HS10.out).reads 1 rfl) HE.out.2.2.1.goodDv HZ.out.1 HE.out.2.2.1.pg HE.out.2.2.1.fl)).mono ?_
    rintro e w61 ⟨p2, u2, f2, R2, rfl, hrd, hin, hnew, hb⟩
    obtain ⟨ap2, cp2, rfl, _⟩ := hrd.pages
    obtain ⟨au2, cu2, rfl, _⟩ := hrd.unread
    obtain ⟨af2, cf2, rfl, _⟩ := hrd.faults
    have HDv2 := Lib.hid hrd
    have HS11 : Hid (Hp w [.ob B1 27 (dvCells (.slice ap1 d1.pages.length cp1) d1 (.slice au1 d1.unread.length cu1) (.slice af1 d1.faults.length cf1)), .rd R1, .rd R2] w61) := (HS10.out).addrd hb R2 hin (fun r hr => (hnew r hr).elim .inl (fun h => .inr ⟨.rd R1, List.mem_of_getElem? (i := 1) rfl, List.mem_map.2 ⟨r, h, rfl⟩⟩))
    clear hb hin hnew hrd
    clear HS10
    go_wp2_with (first | ((with_reducible refine wpList_store_ob 27 (.tmp 1) B1 (dvCells (.slice ap2 d2.pages.length cp2) d2 (.slice au2 d2.unread.length cu2) (.slice af2 d2.faults.length cf2)) (dvCells (.slice ap1 d1.pages.length cp1) d1 (.slice au1 d1.unread.length cu1) (.slice af1 d1.faults.length cf1)) 27 ?_ ?_ ?_ ?_ ?_ ?_ ?_); (exact rfl); (exact rfl); (exact (HS11.out).get 0 rfl); (exact info_dv); (exact rfl); (exact (oneCell_dv _ _ _ _ _ _ _ _ _ _)); skip) | ((with_reducible refine wpList_load_ob 27 (.tmp 1) B1 (dvCells (.slice ap2 d2.pages.length cp2) d2 (.slice au2 d2.unread.length cu2) (.slice af2 d2.faults.length cf2)) 27 HUD.out ?_ ?_ ?_ ?_ ?_); (exact rfl); (exact ((HS11.out).row 0 rfl (dvCells (.slice ap2 d2.pages.length cp2) d2 (.slice au2 d2.unread.length cu2) (.slice af2 d2.faults.length cf2))).get 0 rfl); (exact rfl); (exact info_dv); simp only [Act.put, List.setIfInBounds_toArray, List.set_cons_zero, List.set_cons_succ]))
    refine (dv_as HE.out.1.2.2.2.1 (write_any 0 sb _ HDv2.out (((HS11.out).row 0 rfl (dvCells (.slice ap2 d2.pages.length cp2) d2 (.slice au2 d2.unread.length cu2) (.slice af2 d2.faults.length cf2))).reads 2 rfl) HE.out.2.2.2.1.goodDv HZ.out.2 HE.out.2.2.2.1.pg HE.out.2.2.2.1.fl)).mono ?_
    rintro e w62 ⟨p3, u3, f3, R3, rfl, hrd, hin, hnew, hb⟩
    obtain ⟨ap3, cp3, rfl, _⟩ := hrd.pages
    obtain ⟨au3, cu3, rfl, _⟩ := hrd.unread
    obtain ⟨af3, cf3, rfl, _⟩ := hrd.faults
    have HDv3 := Lib.hid hrd
    have HS12 : Hid (Hp w [.ob B1 27 (dvCells (.slice ap2 d2.pages.length cp2) d2 (.slice au2 d2.unread.length cu2) (.slice af2 d2.faults.length cf2)), .rd R1, .rd R2, .rd R3] w62) := ((HS11.out).row 0 rfl (dvCells (.slice ap2 d2.pages.length cp2) d2 (.slice au2 d2.unread.length cu2) (.slice af2 d2.faults.length cf2))).addrd hb R3 hin (fun r hr => (hnew r hr).elim .inl (fun h => .inr ⟨.rd R2, List.mem_of_getElem? (i := 2) rfl, List.mem_map.2 ⟨r, h, rfl⟩⟩))
    clear hb hin hnew hrd
    clear HS11
    go_wp2_with (first | ((with_reducible refine wpList_store_ob 27 (.tmp 1) B1 (dvCells (.slice ap3 d3.pages.length cp3) d3 (.slice au3 d3.unread.length cu3) (.slice af3 d3.faults.length cf3)) (dvCells (.slice ap2 d2.pages.length cp2) d2 (.slice au2 d2.unread.length cu2) (.slice af2 d2.faults.length cf2)) 27 ?_ ?_ ?_ ?_ ?_ ?_ ?_); (exact rfl); (exact rfl); (exact (HS12.out).get 0 rfl); (exact info_dv); (exact rfl); (exact (oneCell_dv _ _ _ _ _ _ _ _ _ _)); skip) | ((with_reducible refine wpList_load_ob 27 (.tmp 1) B1 (dvCells (.slice ap3 d3.pages.length cp3) d3 (.slice au3 d3.unread.length cu3) (.slice af3 d3.faults.length cf3)) 27 HUD.out ?_ ?_ ?_ ?_ ?_); (exact rfl); (exact ((HS12.out).row 0 rfl (dvCells (.slice ap3 d3.pages.length cp3) d3 (.slice au3 d3.unread.length cu3) (.slice af3 d3.faults.length cf3))).get 0 rfl); (exact rfl); (exact info_dv); simp only [Act.put, List.setIfInBounds_toArray, List.set_cons_zero, List.set_cons_succ]))
    refine (HE.out.1.2.2.2.2 ▸ read_any 0 _ HDv3.out (((HS12.out).row 0 rfl (dvCells (.slice ap3 d3.pages.length cp3) d3 (.slice au3 d3.unread.length cu3) (.slice af3 d3.faults.length cf3))).reads 3 rfl) HE.out.2.2.2.2.goodDv).mono ?_
    rintro e w63 ⟨rfl, hb⟩
    have HS13 : Hid (Hp w [.ob B1 27 (dvCells (.slice ap3 d3.pages.length cp3) d3 (.slice au3 d3.unread.length cu3) (.slice af3 d3.faults.length cf3)), .rd R1, .rd R2, .rd R3] w63) := ((HS12.out).row 0 rfl (dvCells (.slice ap3 d3.pages.length cp3) d3 (.slice au3 d3.unread.length cu3) (.slice af3 d3.faults.length cf3))).calls hb
    clear hb
    clear HS12
    go_wp2_with fail
    go_ret
    exact ⟨rfl, HS13.out.old⟩
end Go.Proofs.Ythcjkbhkidijoaa
