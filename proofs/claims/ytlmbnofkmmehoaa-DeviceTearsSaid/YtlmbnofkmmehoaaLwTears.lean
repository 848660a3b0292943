/- the law DeviceTears: for every input the call returns true -/
import Derived.Test.YtlmbnofkmmehoaaDvTears
import Derived.Test.YtlmbnofkmmehoaaOm3
import Derived.Test.YtlmbnofkmmehoaaOm2
namespace Go.Proofs.Ytlmbnofkmmehoaa
open Go.RowKit
set_option maxRecDepth 20000
set_option linter.unusedSimpArgs false
set_option linter.unusedVariables false

theorem build_tear (b : Int) (W : World) : Sem.run Try.prog (Instr.build 29 #[(0, .int .i64 3), (1, .int .i64 2), (4, .int .i64 b)]) W = .ok (.agg (fltCells ⟨3, 2, 0, 0, b, 0⟩).toArray) W := by kernel_rfl
theorem wp_load_ob {o : Oper} {a : Act} {w : World} {K : Act → World → Prop} {Q : Exit → Act → World → Prop} (t : TypeId) (x : Operand) (b : Nat) (cs : List Value) (t0 : TypeId) {ds : TypeDesc} (hu : Try.prog.underlying t = some ds) (ho : o.op = .load t x) (hx : a.eval x = .pointer (some ⟨b, 0, none⟩)) (hg : w.heap[b]? = some (.cells cs.toArray t0 (0, 0)))
    (hd : ds.isRow = true) (hi : (Try.prog.info? t).map (·.size) = some cs.length) (h : K (a.put o.dst (.agg cs.toArray)) w) : o.wp Try.prog a w K Q :=
  wp_load_row t x ho b hx t0 cs.toArray (0, 0) ds hg hu (by cases ds <;> simp_all) (by rw [List.size_toArray]; exact hi) h
set_option maxHeartbeats 16000000 in
theorem tears_any (x : Option Addr) (len cap : Nat) (zs : List Int) (av bv : Int) (w : World) (hr : IsRow .u8 w x len cap zs) (hav : 0 ≤ av ∧ av ≤ 65535) (hbv : 0 ≤ bv ∧ bv ≤ 65535) :
    Calls Try.prog 8 #[.slice x len cap, .int .u16 av, .int .u16 bv] w fun e w' => e = .returned (.bool true) ∧ Below w.heap.size w w' := by
  have HR := Lib.hid hr
  clear hr
  obtain ⟨m, hm⟩ : ∃ m : Nat, av.tmod 257 = m := Int.eq_ofNat_of_zero_le (by rw [Int.tmod_eq_emod_of_nonneg hav.1]; omega)
  obtain ⟨n, hn⟩ : ∃ n : Nat, bv.tmod 257 = n := Int.eq_ofNat_of_zero_le (by rw [Int.tmod_eq_emod_of_nonneg hbv.1]; omega)
  have hm6 : m ≤ 256 := by rw [Int.tmod_eq_emod_of_nonneg hav.1] at hm; omega
  have hn6 : n ≤ 256 := by rw [Int.tmod_eq_emod_of_nonneg hbv.1] at hn; omega
  have hw1 : IntKind.i64.wrap av = av := IntWalk.i64_in _ (by omega)
  have hw2 : IntKind.i64.wrap bv = bv := IntWalk.i64_in _ (by omega)
  have HN := Lib.hid (And.intro (And.intro hm hn) (And.intro hw1 hw2))
  have HM := Lib.hid (And.intro hm6 hn6)
  obtain ⟨d0, e1, ok0, hw⟩ := Ter.start
  have HE := Lib.hid e1
  have HO := Lib.hid ok0
  have HW := Lib.hid hw
  clear hm hn hw1 hw2 hm6 hn6 e1 ok0 hw hav hbv
  obtain ⟨fs, hud⟩ := under_dv
  have HUD := Lib.hid hud
  obtain ⟨fs2, huf⟩ := under_flt
  have HUF := Lib.hid huf
  clear hud huf
  go_enter Try.func8, Try.ntmps8
  go_wp2_with fail
  refine (awake4 _).mono ?_
  rintro e w1 ⟨rfl, hb⟩
  have HS0 : Hid (Hp w [] w1) := (Hp.start w).calls hb
  clear hb
  go_wp2_with fail
  refine (new_hp 100 (by omega) HS0.out HR.out).mono ?_
  rintro e w2 ⟨rfl, hs⟩
  have HS1 : Hid (Hp w [.cd w1.heap.size] w2) := hs
  clear hs HS0 HR
  generalize w1.heap.size = C at *
  go_wp2_with fail
  refine (dv_as HE.out (new_dv 2 _)).mono ?_
  rintro e w3 ⟨p0, u0, f0, R0, rfl, hrd, hin, hnew, hb⟩
  obtain ⟨ap0, cp0, rfl, _⟩ := hrd.pages
  obtain ⟨au0, cu0, rfl, _⟩ := hrd.unread
  obtain ⟨af0, cf0, rfl, _⟩ := hrd.faults
  have HDv0 := Lib.hid hrd
  have HS2 : Hid (Hp w [.cd C, .rd R0] w3) := (HS1.out).addrd hb R0 hin (fun r hr => (hnew r hr).elim .inl (fun h => absurd h List.not_mem_nil))
  clear hb hin hnew hrd
  clear HS1
  go_upto_region 5 with (first | ((with_reducible refine wpList_alloc_ob 27 (dvCells nilS dvNil nilS nilS) ?_ ?_); (exact alloc_dv); simp only [Act.put, List.setIfInBounds_toArray, List.set_cons_zero, List.set_cons_succ]) | ((with_reducible refine wpList_store_ob 27 (.tmp 8) (w3.heap.size) (dvCells (.slice ap0 d0.pages.length cp0) d0 (.slice au0 d0.unread.length cu0) (.slice af0 d0.faults.length cf0)) (dvCells nilS dvNil nilS nilS) 27 ?_ ?_ ?_ ?_ ?_ ?_ ?_); (exact rfl); (exact rfl); (exact ((HS2.out).put 27 (dvCells nilS dvNil nilS nilS)).get 2 rfl); (exact info_dv); (exact rfl); (exact (oneCell_dv _ _ _ _ _ _ _ _ _ _)); skip))
  have HS3 : Hid (Hp w [.cd C, .rd R0, .ob (w3.heap.size) 27 (dvCells (.slice ap0 d0.pages.length cp0) d0 (.slice au0 d0.unread.length cu0) (.slice af0 d0.faults.length cf0))] ((w3.alloc (.cells (dvCells nilS dvNil nilS nilS).toArray 27)).setRow (w3.heap.size) (dvCells (.slice ap0 d0.pages.length cp0) d0 (.slice au0 d0.unread.length cu0) (.slice af0 d0.faults.length cf0)).toArray)) := ((HS2.out).put 27 (dvCells nilS dvNil nilS nilS)).row 2 rfl (dvCells (.slice ap0 d0.pages.length cp0) d0 (.slice au0 d0.unread.length cu0) (.slice af0 d0.faults.length cf0))
  clear HS2
  generalize ((w3.alloc (.cells (dvCells nilS dvNil nilS nilS).toArray 27)).setRow (w3.heap.size) (dvCells (.slice ap0 d0.pages.length cp0) d0 (.slice au0 d0.unread.length cu0) (.slice af0 d0.faults.length cf0)).toArray) = w4 at *
  generalize w3.heap.size = B1 at *
  have HS4 : Hid (Hp w [.cd C, .ob B1 27 (dvCells (.slice ap0 d0.pages.length cp0) d0 (.slice au0 d0.unread.length cu0) (.slice af0 d0.faults.length cf0)), .rd R0] w4) := HS3.out.pull [0, 2, 1] rfl (pull_nd HS3.out.nd [0, 2, 1] rfl (by decide))
  clear HS3
  go_cut [10] (fun s10 wx => ∃ (s1 : ByteArray) (X : Dv) (apx : Option Addr) (cpx : Nat) (aux : Option Addr) (cux : Nat) (afx : Option Addr) (cfx : Nat) (Rx : List Rng), s10 = .int .i64 0 ∧ (s1.size = 256 ∧ Ter X 1 s1 ∧ DvRd (.slice apx X.pages.length cpx) (.slice aux X.unread.length cux) (.slice afx X.faults.length cfx) X Rx) ∧ Hp w [.cd C, .ob B1 27 (dvCells (.slice apx X.pages.length cpx) X (.slice aux X.unread.length cux) (.slice afx X.faults.length cfx)), .rd R0, .rd Rx] wx)
  case first =>
    refine wp_region_held_drew (S := fun w' => Hold w.heap.size [] w') (by kernel_rfl) ((HS4.out).drew.pick [] rfl) (fun hHeld => ?_)
    refine wpAnyH_take (i := 1) (oi := { dst := some 32, op := Op.move (Operand.tmp 7), type := 32, pos := "more.go:46", after := #[], guard := none }) (v := ?q1v) rfl (by kernel_rfl) (by kernel_rfl) (by kernel_rfl) (fun _ _ _ h => h) (Or.inl ⟨by rfl, ?q1h⟩) hHeld ?q1r
    case q1h => (intro wq hSw; clear hSw; go_simp; try with_reducible rfl)
    try simp only [Act.put, List.setIfInBounds_toArray, List.set_cons_zero, List.set_cons_succ]
    refine wpAnyH_ready (rs := [0, 2]) (by kernel_rfl) (by simp) ?_
    refine AllReadyH.cons (o := { dst := some 31, op := Op.load 27 (Operand.tmp 8), type := 27, pos := "more.go:46", after := #[], guard := none }) rfl (fun K hK => ?_) (AllReadyH.cons (o := { dst := some 33, op := Op.call { callee := Callee.value (Operand.func 18), args := #[Operand.tmp 32], argTypes := #[32] }, type := 9, pos := "more.go:46", after := #[{ on := 1, ground := Ground.data }], guard := none }) rfl (fun K hK => ?_) (AllReadyH.nil))
    · rw [if_pos (by rfl)]
      refine wp_load_ob 27 (.tmp 8) B1 (dvCells (.slice ap0 d0.pages.length cp0) d0 (.slice au0 d0.unread.length cu0) (.slice af0 d0.faults.length cf0)) 27 HUD.out rfl rfl (((HS4.out).drew).get 1 rfl) rfl (info_dv) ?_
      have HS5 : Hid (Hp w [.cd C, .ob B1 27 (dvCells (.slice ap0 d0.pages.length cp0) d0 (.slice au0 d0.unread.length cu0) (.slice af0 d0.faults.length cf0)), .rd R0] (w4.drew)) := (HS4.out).drew
      refine hK.out _ _ (HS5.out.pick [] rfl) (fun hHeld => ?_)
      clear hK K
      generalize w4.drew = w5 at *
      try simp only [Act.put, List.setIfInBounds_toArray, List.set_cons_zero, List.set_cons_succ]
      refine wpAnyH_ready (rs := [2]) (by kernel_rfl) (by simp) ?_
      refine AllReadyH.cons (o := { dst := some 33, op := Op.call { callee := Callee.value (Operand.func 18), args := #[Operand.tmp 32], argTypes := #[32] }, type := 9, pos := "more.go:46", after := #[{ on := 1, ground := Ground.data }], guard := none }) rfl (fun K hK => ?_) (AllReadyH.nil)
      go_simp
      go_wp2_with (go_at_call 18; refine (bytes_any C _ ((HS5.out).codes 0 rfl)).mono ?_; rintro e w6 ⟨s1, rfl, hs2, hb, hc⟩)
      have HS6 : Hid (Hp w [.cd C, .ob B1 27 (dvCells (.slice ap0 d0.pages.length cp0) d0 (.slice au0 d0.unread.length cu0) (.slice af0 d0.faults.length cf0)), .rd R0] w6) := (HS5.out).draws 0 rfl hb hc
      refine hK.out _ _ (HS6.out.pick [] rfl) (fun hHeld => ?_)
      clear hK K hb hc
      have HSz1 := Lib.hid hs2
      have HSm1 : Hid (s1.size ≤ maxLen) := by show _ ≤ _; rw [hs2]; decide
      obtain ⟨X, eX, oX⟩ := HW.out s1 hs2
      have HEX := Lib.hid eX
      have HOX := Lib.hid oX
      clear eX oX hs2
      try simp only [Act.put, List.setIfInBounds_toArray, List.set_cons_zero, List.set_cons_succ]
      refine wpAnyH_ready (rs := [3]) (by kernel_rfl) (by simp) ?_
      refine AllReadyH.cons (o := { dst := some 34, op := Op.call { callee := Callee.value (Operand.func 20), args := #[Operand.tmp 31, Operand.const (Value.int IntKind.i64 1), Operand.tmp 33], argTypes := #[27, 3, 9] }, type := 36, pos := "more.go:46", after := #[{ on := 0, ground := Ground.data }, { on := 2, ground := Ground.data }, { on := 2, ground := Ground.chain }], guard := none }) rfl (fun K hK => ?_) (AllReadyH.nil)
      go_simp
      go_wp2_with (go_at_call 20; refine (dv_as HEX.out (write_any 1 s1 _ HDv0.out ((HS6.out).reads 2 rfl) HO.out.goodDv HSm1.out HO.out.pg HO.out.fl)).mono ?_; rintro e w7 ⟨px, ux, fx, Rx, rfl, hrd, hin, hnew, hb⟩)
      obtain ⟨apx, cpx, rfl, _⟩ := hrd.pages
      obtain ⟨aux, cux, rfl, _⟩ := hrd.unread
      obtain ⟨afx, cfx, rfl, _⟩ := hrd.faults
      have HDvx := Lib.hid hrd
      have HS7 : Hid (Hp w [.cd C, .ob B1 27 (dvCells (.slice ap0 d0.pages.length cp0) d0 (.slice au0 d0.unread.length cu0) (.slice af0 d0.faults.length cf0)), .rd R0, .rd Rx] w7) := (HS6.out).addrd hb Rx hin (fun r hr => (hnew r hr).elim .inl (fun h => .inr ⟨.rd R0, List.mem_of_getElem? (i := 2) rfl, List.mem_map.2 ⟨r, h, rfl⟩⟩))
      refine hK.out _ _ (HS7.out.pick [] rfl) (fun hHeld => ?_)
      clear hK K hb hin hnew hrd
      try simp only [Act.put, List.setIfInBounds_toArray, List.set_cons_zero, List.set_cons_succ]
      refine wpAnyH_take (i := 4) (oi := { dst := some 30, op := Op.move (Operand.tmp 34), type := 36, pos := "more.go:46", after := #[{ on := 3, ground := Ground.data }], guard := none }) (v := ?q2v) rfl (by kernel_rfl) (by kernel_rfl) (by kernel_rfl) (fun _ _ _ h => h) (Or.inl ⟨by rfl, ?q2h⟩) hHeld ?q2r
      case q2h => (intro wq hSw; clear hSw; go_simp; try with_reducible rfl)
      try simp only [Act.put, List.setIfInBounds_toArray, List.set_cons_zero, List.set_cons_succ]
      refine wpAnyH_take (i := 5) (oi := { dst := some 35, op := Op.extract (Operand.tmp 30) 0, type := 27, pos := "more.go:46", after := #[{ on := 4, ground := Ground.data }], guard := none }) (v := ?q3v) rfl (by kernel_rfl) (by kernel_rfl) (by kernel_rfl) (fun _ _ _ h => h) (Or.inl ⟨by rfl, ?q3h⟩) hHeld ?q3r
      case q3h => (intro wq hSw; clear hSw; go_simp; try with_reducible rfl)
      try simp only [Act.put, List.setIfInBounds_toArray, List.set_cons_zero, List.set_cons_succ]
      refine wpAnyH_take (i := 6) (oi := { dst := some 36, op := Op.extract (Operand.tmp 30) 1, type := 35, pos := "more.go:46", after := #[{ on := 4, ground := Ground.data }, { on := 7, ground := Ground.gcOnly Departure.lateStores }], guard := none }) (v := ?q4v) rfl (by kernel_rfl) (by kernel_rfl) (by kernel_rfl) (fun _ _ _ h => h) (Or.inl ⟨by rfl, ?q4h⟩) hHeld ?q4r
      case q4h => (intro wq hSw; clear hSw; go_simp; try with_reducible rfl)
      try simp only [Act.put, List.setIfInBounds_toArray, List.set_cons_zero, List.set_cons_succ]
      refine wpAnyH_ready (rs := [7]) (by kernel_rfl) (by simp) ?_
      refine AllReadyH.cons (o := { dst := none, op := Op.store 27 (Operand.tmp 8) (Operand.tmp 35), type := 0, pos := "more.go:46", after := #[{ on := 5, ground := Ground.data }, { on := 3, ground := Ground.chain }, { on := 0, ground := Ground.phase }, { on := 1, ground := Ground.phase }, { on := 2, ground := Ground.phase }, { on := 3, ground := Ground.phase }, { on := 4, ground := Ground.phase }, { on := 5, ground := Ground.phase }, { on := 6, ground := Ground.textOnly Departure.lateStores }], guard := none }) rfl (fun K hK => ?_) (AllReadyH.nil)
      rw [if_pos (by rfl)]
      refine wp_store_ob 27 (.tmp 8) (.tmp 35) B1 (dvCells (.slice apx X.pages.length cpx) X (.slice aux X.unread.length cux) (.slice afx X.faults.length cfx)) (dvCells (.slice ap0 d0.pages.length cp0) d0 (.slice au0 d0.unread.length cu0) (.slice af0 d0.faults.length cf0)) 27 rfl rfl rfl rfl ((HS7.out).get 1 rfl) (info_dv) (rfl) ((oneCell_dv _ _ _ _ _ _ _ _ _ _)) ?_
      have HS8 : Hid (Hp w [.cd C, .ob B1 27 (dvCells (.slice apx X.pages.length cpx) X (.slice aux X.unread.length cux) (.slice afx X.faults.length cfx)), .rd R0, .rd Rx] (w7.setRow B1 (dvCells (.slice apx X.pages.length cpx) X (.slice aux X.unread.length cux) (.slice afx X.faults.length cfx)).toArray)) := (HS7.out).row 1 rfl (dvCells (.slice apx X.pages.length cpx) X (.slice aux X.unread.length cux) (.slice afx X.faults.length cfx))
      refine hK.out _ _ (HS8.out.pick [] rfl) (fun hHeld => ?_)
      clear hK K
      generalize (w7.setRow B1 (dvCells (.slice apx X.pages.length cpx) X (.slice aux X.unread.length cux) (.slice afx X.faults.length cfx)).toArray) = w8 at *
      try simp only [Act.put, List.setIfInBounds_toArray, List.set_cons_zero, List.set_cons_succ]
      refine wpAnyH_take (i := 8) (oi := { dst := some 10, op := Op.assign (Operand.tmp 36), type := 35, pos := "more.go:46", after := #[{ on := 6, ground := Ground.data }, { on := 7, ground := Ground.chain }, { on := 0, ground := Ground.phase }, { on := 1, ground := Ground.phase }, { on := 2, ground := Ground.phase }, { on := 3, ground := Ground.phase }, { on := 4, ground := Ground.phase }, { on := 5, ground := Ground.phase }, { on := 6, ground := Ground.phase }, { on := 7, ground := Ground.phase }], guard := none }) (v := ?q5v) rfl (by kernel_rfl) (by kernel_rfl) (by kernel_rfl) (fun _ _ _ h => h) (Or.inl ⟨by rfl, ?q5h⟩) hHeld ?q5r
      case q5h => (intro wq hSw; clear hSw; go_simp; try with_reducible rfl)
      try simp only [Act.put, List.setIfInBounds_toArray, List.set_cons_zero, List.set_cons_succ]
      refine wpAnyH_done (by kernel_rfl) ?_ _
      go_wp2_with fail
      go_meet
      exact ⟨s1, X, apx, cpx, aux, cux, afx, cfx, Rx, rfl, ⟨HSz1.out, HOX.out, HDvx.out⟩, HS8.out⟩
    · go_simp
      go_wp2_with (go_at_call 18; refine (bytes_any C _ (((HS4.out).drew).codes 0 rfl)).mono ?_; rintro e w5 ⟨s1, rfl, hs2, hb, hc⟩)
      have HS5 : Hid (Hp w [.cd C, .ob B1 27 (dvCells (.slice ap0 d0.pages.length cp0) d0 (.slice au0 d0.unread.length cu0) (.slice af0 d0.faults.length cf0)), .rd R0] w5) := ((HS4.out).drew).draws 0 rfl hb hc
      refine hK.out _ _ (HS5.out.pick [] rfl) (fun hHeld => ?_)
      clear hK K hb hc
      have HSz1 := Lib.hid hs2
      have HSm1 : Hid (s1.size ≤ maxLen) := by show _ ≤ _; rw [hs2]; decide
      obtain ⟨X, eX, oX⟩ := HW.out s1 hs2
      have HEX := Lib.hid eX
      have HOX := Lib.hid oX
      clear eX oX hs2
      try simp only [Act.put, List.setIfInBounds_toArray, List.set_cons_zero, List.set_cons_succ]
      refine wpAnyH_ready (rs := [0]) (by kernel_rfl) (by simp) ?_
      refine AllReadyH.cons (o := { dst := some 31, op := Op.load 27 (Operand.tmp 8), type := 27, pos := "more.go:46", after := #[], guard := none }) rfl (fun K hK => ?_) (AllReadyH.nil)
      rw [if_pos (by rfl)]
      refine wp_load_ob 27 (.tmp 8) B1 (dvCells (.slice ap0 d0.pages.length cp0) d0 (.slice au0 d0.unread.length cu0) (.slice af0 d0.faults.length cf0)) 27 HUD.out rfl rfl ((HS5.out).get 1 rfl) rfl (info_dv) ?_
      have HS6 : Hid (Hp w [.cd C, .ob B1 27 (dvCells (.slice ap0 d0.pages.length cp0) d0 (.slice au0 d0.unread.length cu0) (.slice af0 d0.faults.length cf0)), .rd R0] w5) := HS5.out
      refine hK.out _ _ (HS6.out.pick [] rfl) (fun hHeld => ?_)
      clear hK K
      try simp only [Act.put, List.setIfInBounds_toArray, List.set_cons_zero, List.set_cons_succ]
      refine wpAnyH_ready (rs := [3]) (by kernel_rfl) (by simp) ?_
      refine AllReadyH.cons (o := { dst := some 34, op := Op.call { callee := Callee.value (Operand.func 20), args := #[Operand.tmp 31, Operand.const (Value.int IntKind.i64 1), Operand.tmp 33], argTypes := #[27, 3, 9] }, type := 36, pos := "more.go:46", after := #[{ on := 0, ground := Ground.data }, { on := 2, ground := Ground.data }, { on := 2, ground := Ground.chain }], guard := none }) rfl (fun K hK => ?_) (AllReadyH.nil)
      go_simp
      go_wp2_with (go_at_call 20; refine (dv_as HEX.out (write_any 1 s1 _ HDv0.out ((HS6.out).reads 2 rfl) HO.out.goodDv HSm1.out HO.out.pg HO.out.fl)).mono ?_; rintro e w6 ⟨px, ux, fx, Rx, rfl, hrd, hin, hnew, hb⟩)
      obtain ⟨apx, cpx, rfl, _⟩ := hrd.pages
      obtain ⟨aux, cux, rfl, _⟩ := hrd.unread
      obtain ⟨afx, cfx, rfl, _⟩ := hrd.faults
      have HDvx := Lib.hid hrd
      have HS7 : Hid (Hp w [.cd C, .ob B1 27 (dvCells (.slice ap0 d0.pages.length cp0) d0 (.slice au0 d0.unread.length cu0) (.slice af0 d0.faults.length cf0)), .rd R0, .rd Rx] w6) := (HS6.out).addrd hb Rx hin (fun r hr => (hnew r hr).elim .inl (fun h => .inr ⟨.rd R0, List.mem_of_getElem? (i := 2) rfl, List.mem_map.2 ⟨r, h, rfl⟩⟩))
      refine hK.out _ _ (HS7.out.pick [] rfl) (fun hHeld => ?_)
      clear hK K hb hin hnew hrd
      try simp only [Act.put, List.setIfInBounds_toArray, List.set_cons_zero, List.set_cons_succ]
      refine wpAnyH_take (i := 4) (oi := { dst := some 30, op := Op.move (Operand.tmp 34), type := 36, pos := "more.go:46", after := #[{ on := 3, ground := Ground.data }], guard := none }) (v := ?q6v) rfl (by kernel_rfl) (by kernel_rfl) (by kernel_rfl) (fun _ _ _ h => h) (Or.inl ⟨by rfl, ?q6h⟩) hHeld ?q6r
      case q6h => (intro wq hSw; clear hSw; go_simp; try with_reducible rfl)
      try simp only [Act.put, List.setIfInBounds_toArray, List.set_cons_zero, List.set_cons_succ]
      refine wpAnyH_take (i := 5) (oi := { dst := some 35, op := Op.extract (Operand.tmp 30) 0, type := 27, pos := "more.go:46", after := #[{ on := 4, ground := Ground.data }], guard := none }) (v := ?q7v) rfl (by kernel_rfl) (by kernel_rfl) (by kernel_rfl) (fun _ _ _ h => h) (Or.inl ⟨by rfl, ?q7h⟩) hHeld ?q7r
      case q7h => (intro wq hSw; clear hSw; go_simp; try with_reducible rfl)
      try simp only [Act.put, List.setIfInBounds_toArray, List.set_cons_zero, List.set_cons_succ]
      refine wpAnyH_take (i := 6) (oi := { dst := some 36, op := Op.extract (Operand.tmp 30) 1, type := 35, pos := "more.go:46", after := #[{ on := 4, ground := Ground.data }, { on := 7, ground := Ground.gcOnly Departure.lateStores }], guard := none }) (v := ?q8v) rfl (by kernel_rfl) (by kernel_rfl) (by kernel_rfl) (fun _ _ _ h => h) (Or.inl ⟨by rfl, ?q8h⟩) hHeld ?q8r
      case q8h => (intro wq hSw; clear hSw; go_simp; try with_reducible rfl)
      try simp only [Act.put, List.setIfInBounds_toArray, List.set_cons_zero, List.set_cons_succ]
      refine wpAnyH_ready (rs := [7]) (by kernel_rfl) (by simp) ?_
      refine AllReadyH.cons (o := { dst := none, op := Op.store 27 (Operand.tmp 8) (Operand.tmp 35), type := 0, pos := "more.go:46", after := #[{ on := 5, ground := Ground.data }, { on := 3, ground := Ground.chain }, { on := 0, ground := Ground.phase }, { on := 1, ground := Ground.phase }, { on := 2, ground := Ground.phase }, { on := 3, ground := Ground.phase }, { on := 4, ground := Ground.phase }, { on := 5, ground := Ground.phase }, { on := 6, ground := Ground.textOnly Departure.lateStores }], guard := none }) rfl (fun K hK => ?_) (AllReadyH.nil)
      rw [if_pos (by rfl)]
      refine wp_store_ob 27 (.tmp 8) (.tmp 35) B1 (dvCells (.slice apx X.pages.length cpx) X (.slice aux X.unread.length cux) (.slice afx X.faults.length cfx)) (dvCells (.slice ap0 d0.pages.length cp0) d0 (.slice au0 d0.unread.length cu0) (.slice af0 d0.faults.length cf0)) 27 rfl rfl rfl rfl ((HS7.out).get 1 rfl) (info_dv) (rfl) ((oneCell_dv _ _ _ _ _ _ _ _ _ _)) ?_
      have HS8 : Hid (Hp w [.cd C, .ob B1 27 (dvCells (.slice apx X.pages.length cpx) X (.slice aux X.unread.length cux) (.slice afx X.faults.length cfx)), .rd R0, .rd Rx] (w6.setRow B1 (dvCells (.slice apx X.pages.length cpx) X (.slice aux X.unread.length cux) (.slice afx X.faults.length cfx)).toArray)) := (HS7.out).row 1 rfl (dvCells (.slice apx X.pages.length cpx) X (.slice aux X.unread.length cux) (.slice afx X.faults.length cfx))
      refine hK.out _ _ (HS8.out.pick [] rfl) (fun hHeld => ?_)
      clear hK K
      generalize (w6.setRow B1 (dvCells (.slice apx X.pages.length cpx) X (.slice aux X.unread.length cux) (.slice afx X.faults.length cfx)).toArray) = w7 at *
      try simp only [Act.put, List.setIfInBounds_toArray, List.set_cons_zero, List.set_cons_succ]
      refine wpAnyH_take (i := 8) (oi := { dst := some 10, op := Op.assign (Operand.tmp 36), type := 35, pos := "more.go:46", after := #[{ on := 6, ground := Ground.data }, { on := 7, ground := Ground.chain }, { on := 0, ground := Ground.phase }, { on := 1, ground := Ground.phase }, { on := 2, ground := Ground.phase }, { on := 3, ground := Ground.phase }, { on := 4, ground := Ground.phase }, { on := 5, ground := Ground.phase }, { on := 6, ground := Ground.phase }, { on := 7, ground := Ground.phase }], guard := none }) (v := ?q9v) rfl (by kernel_rfl) (by kernel_rfl) (by kernel_rfl) (fun _ _ _ h => h) (Or.inl ⟨by rfl, ?q9h⟩) hHeld ?q9r
      case q9h => (intro wq hSw; clear hSw; go_simp; try with_reducible rfl)
      try simp only [Act.put, List.setIfInBounds_toArray, List.set_cons_zero, List.set_cons_succ]
      refine wpAnyH_done (by kernel_rfl) ?_ _
      go_wp2_with fail
      go_meet
      exact ⟨s1, X, apx, cpx, aux, cux, afx, cfx, Rx, rfl, ⟨HSz1.out, HOX.out, HDvx.out⟩, HS8.out⟩
  case rest =>
    obtain ⟨s1, X, apx, cpx, aux, cux, afx, cfx, Rx, rfl, hx, hs⟩ := hcut
    have HS28 : Hid (Hp w [.cd C, .ob B1 27 (dvCells (.slice apx X.pages.length cpx) X (.slice aux X.unread.length cux) (.slice afx X.faults.length cfx)), .rd R0, .rd Rx] wc) := hs
    clear hs HS4
    generalize wc = w28 at *
    obtain ⟨hsz, oX, hdv⟩ := hx
    have HSz1 := Lib.hid hsz
    have HOX := Lib.hid oX
    have HDvx := Lib.hid hdv
    obtain ⟨gx, ox, hax, hnx, _, hcx⟩ := Ter.at oX hdv
    have HPx : Hid ((dvCells (.slice apx X.pages.length cpx) X (.slice aux X.unread.length cux) (.slice afx X.faults.length cfx))[0]? = some (.slice (some ⟨gx, ox, none⟩) 2 cpx)) := by show _ = _; rw [hax, hnx]; rfl
    have HCx := Lib.hid hcx
    clear hsz oX hdv hax hnx hcx HW HE HO HDv0
    have c0 := HS28.out.at 1 rfl 0 HPx.out
    have HS29 : Hid (Hp w [.cd C, .ob B1 27 (dvCells (.slice apx X.pages.length cpx) X (.slice aux X.unread.length cux) (.slice afx X.faults.length cfx)), .rd Rx] w28) := HS28.out.pull [0, 1, 3] rfl (pull_nd HS28.out.nd [0, 1, 3] rfl (by decide))
    clear HS28
    go_upto_region 8 with (fail)
    clear c0
    go_cut [11, 12] (fun s11 s12 wx => ∃ (s : ByteArray), s11 = .string s1 ∧ s12 = .string s ∧ s.size = 256 ∧ Hp w [.cd C, .ob B1 27 (dvCells (.slice apx X.pages.length cpx) X (.slice aux X.unread.length cux) (.slice afx X.faults.length cfx)), .rd Rx] wx)
    case first =>
      refine wp_region_held_drew (S := fun w' => Hold w.heap.size [.ob B1 27 (dvCells (.slice apx X.pages.length cpx) X (.slice aux X.unread.length cux) (.slice afx X.faults.length cfx)), .rd Rx] w') (by kernel_rfl) ((HS29.out).drew.pick [1, 2] rfl) (fun hHeld => ?_)
      refine wpAnyH_take (i := 0) (oi := { dst := some 49, op := Op.fieldAddr 27 (Operand.tmp 8) 0, type := 0, pos := "more.go:50", after := #[], guard := none }) (v := ?q10v) rfl (by kernel_rfl) (by kernel_rfl) (by kernel_rfl) (fun _ _ _ h => h) (Or.inl ⟨by rfl, ?q10h⟩) hHeld ?q10r
      case q10h => (intro wq hSw; clear hSw; go_simp; try with_reducible rfl)
      try simp only [Act.put, List.setIfInBounds_toArray, List.set_cons_zero, List.set_cons_succ]
      refine wpAnyH_take (i := 1) (oi := { dst := some 50, op := Op.load 23 (Operand.tmp 49), type := 23, pos := "more.go:50", after := #[{ on := 0, ground := Ground.data }], guard := none }) (v := ?q11v) rfl (by kernel_rfl) (by kernel_rfl) (by kernel_rfl) (fun _ _ _ h => h) (Or.inl ⟨by rfl, ?q11h⟩) hHeld ?q11r
      case q11h => (intro wq hSw; have q0 := hSw.at 0 rfl 0 HPx.out; clear hSw; go_simp; try with_reducible rfl)
      try simp only [Act.put, List.setIfInBounds_toArray, List.set_cons_zero, List.set_cons_succ]
      refine wpAnyH_take (i := 2) (oi := { dst := some 51, op := Op.indexAddr 23 (Operand.tmp 50) (Operand.const (Value.int IntKind.i64 1)), type := 0, pos := "more.go:50", after := #[{ on := 1, ground := Ground.data }], guard := none }) (v := ?q12v) rfl (by kernel_rfl) (by kernel_rfl) (by kernel_rfl) (fun _ _ _ h => h) (Or.inl ⟨by rfl, ?q12h⟩) hHeld ?q12r
      case q12h => (intro wq hSw; clear hSw; go_simp; try with_reducible rfl)
      try simp only [Act.put, List.setIfInBounds_toArray, List.set_cons_zero, List.set_cons_succ]
      refine wpAnyH_take (i := 3) (oi := { dst := some 52, op := Op.load 9 (Operand.tmp 51), type := 9, pos := "more.go:50", after := #[{ on := 2, ground := Ground.data }], guard := none }) (v := ?q13v) rfl (by kernel_rfl) (by kernel_rfl) (by kernel_rfl) (fun _ _ _ h => h) (Or.inl ⟨by rfl, ?q13h⟩) hHeld ?q13r
      case q13h => (intro wq hSw; have q1 := HCx.out wq (hSw (.rd Rx) (List.mem_of_getElem? (i := 1) rfl)); clear hSw; go_simp; try with_reducible rfl)
      try simp only [Act.put, List.setIfInBounds_toArray, List.set_cons_zero, List.set_cons_succ]
      refine wpAnyH_take (i := 4) (oi := { dst := some 53, op := Op.move (Operand.tmp 7), type := 32, pos := "more.go:50", after := #[], guard := none }) (v := ?q14v) rfl (by kernel_rfl) (by kernel_rfl) (by kernel_rfl) (fun _ _ _ h => h) (Or.inl ⟨by rfl, ?q14h⟩) hHeld ?q14r
      case q14h => (intro wq hSw; clear hSw; go_simp; try with_reducible rfl)
      try simp only [Act.put, List.setIfInBounds_toArray, List.set_cons_zero, List.set_cons_succ]
      refine wpAnyH_ready (rs := [5]) (by kernel_rfl) (by simp) ?_
      refine AllReadyH.cons (o := { dst := some 54, op := Op.call { callee := Callee.value (Operand.func 18), args := #[Operand.tmp 53], argTypes := #[32] }, type := 9, pos := "more.go:50", after := #[{ on := 4, ground := Ground.data }], guard := none }) rfl (fun K hK => ?_) (AllReadyH.nil)
      go_simp
      go_wp2_with (go_at_call 18; refine (bytes_any C _ (((HS29.out).drew).codes 0 rfl)).mono ?_; rintro e w29 ⟨s, rfl, hs2, hb, hc⟩)
      have HS30 : Hid (Hp w [.cd C, .ob B1 27 (dvCells (.slice apx X.pages.length cpx) X (.slice aux X.unread.length cux) (.slice afx X.faults.length cfx)), .rd Rx] w29) := ((HS29.out).drew).draws 0 rfl hb hc
      refine hK.out _ _ (HS30.out.pick [1, 2] rfl) (fun hHeld => ?_)
      clear hK K hb hc
      have HSz := Lib.hid hs2
      clear hs2
      try simp only [Act.put, List.setIfInBounds_toArray, List.set_cons_zero, List.set_cons_succ]
      refine wpAnyH_take (i := 6) (oi := { dst := some 11, op := Op.assign (Operand.tmp 52), type := 9, pos := "more.go:50", after := #[{ on := 3, ground := Ground.data }, { on := 5, ground := Ground.chain }, { on := 0, ground := Ground.phase }, { on := 1, ground := Ground.phase }, { on := 2, ground := Ground.phase }, { on := 3, ground := Ground.phase }, { on := 4, ground := Ground.textOnly Departure.lateStores }, { on := 5, ground := Ground.textOnly Departure.lateStoresUnsure }], guard := none }) (v := ?q15v) rfl (by kernel_rfl) (by kernel_rfl) (by kernel_rfl) (fun _ _ _ h => h) (Or.inl ⟨by rfl, ?q15h⟩) hHeld ?q15r
      case q15h => (intro wq hSw; clear hSw; go_simp; try with_reducible rfl)
      try simp only [Act.put, List.setIfInBounds_toArray, List.set_cons_zero, List.set_cons_succ]
      refine wpAnyH_take (i := 7) (oi := { dst := some 12, op := Op.assign (Operand.tmp 54), type := 9, pos := "more.go:50", after := #[{ on := 5, ground := Ground.data }, { on := 6, ground := Ground.chain }, { on := 0, ground := Ground.phase }, { on := 1, ground := Ground.phase }, { on := 2, ground := Ground.phase }, { on := 3, ground := Ground.phase }, { on := 4, ground := Ground.phase }, { on := 5, ground := Ground.phase }, { on := 6, ground := Ground.phase }], guard := none }) (v := ?q16v) rfl (by kernel_rfl) (by kernel_rfl) (by kernel_rfl) (fun _ _ _ h => h) (Or.inl ⟨by rfl, ?q16h⟩) hHeld ?q16r
      case q16h => (intro wq hSw; clear hSw; go_simp; try with_reducible rfl)
      try simp only [Act.put, List.setIfInBounds_toArray, List.set_cons_zero, List.set_cons_succ]
      refine wpAnyH_done (by kernel_rfl) ?_ _
      go_wp2_with fail
      go_meet
      exact ⟨s, rfl, rfl, HSz.out, HS30.out⟩
    case rest =>
      obtain ⟨s, rfl, rfl, hx, hs⟩ := hcut
      have HS50 : Hid (Hp w [.cd C, .ob B1 27 (dvCells (.slice apx X.pages.length cpx) X (.slice aux X.unread.length cux) (.slice afx X.faults.length cfx)), .rd Rx] wc) := hs
      clear hs HS29
      generalize wc = w50 at *
      have HSz := Lib.hid hx
      have HSm : Hid (s.size ≤ maxLen) := by show _ ≤ _; rw [hx]; decide
      obtain ⟨x1, eT1, oT1⟩ := HOX.out.tear hx (c := m) HM.out.1
      obtain ⟨x2, eT2, oT2⟩ := oT1.tear hx (c := n) HM.out.2
      rw [torn_twice s s1 m n hx HSz1.out HM.out.1 HM.out.2] at oT2
      obtain ⟨k, hk⟩ : ∃ k, max m n = k := ⟨_, rfl⟩
      rw [hk] at oT2
      have HK : Hid (k ≤ 256) := Lib.hid (by have := HM.out; omega)
      have hmax0 : (if m < n then (n : Int) else (m : Int)) = (k : Int) := by rw [← hk]; split <;> omega
      have HMx := Lib.hid hmax0
      clear hmax0 hk
      have HT1 := Lib.hid eT1
      have HT2 := Lib.hid eT2
      have HO1 := Lib.hid oT1
      have HO2 := Lib.hid oT2
      clear hx eT1 eT2 oT1 oT2
      have hma := HN.out.1.1
      have hmb := HN.out.1.2
      have hw1 := HN.out.2.1
      have hw2 := HN.out.2.2
      go_wp2_with (first | ((with_reducible refine wpList_load_ob 27 (.tmp 8) B1 (dvCells (.slice apx X.pages.length cpx) X (.slice aux X.unread.length cux) (.slice afx X.faults.length cfx)) 27 HUD.out ?_ ?_ ?_ ?_ ?_); (exact rfl); (exact (HS50.out).get 1 rfl); (exact rfl); (exact info_dv); simp only [Act.put, List.setIfInBounds_toArray, List.set_cons_zero, List.set_cons_succ]))
      refine (dv_as HT1.out (tear_any 1 s m _ HDvx.out ((HS50.out).reads 2 rfl) HOX.out.ok.goodDv HSm.out HOX.out.ok.pg HOX.out.ok.fl)).mono ?_
      rintro e w51 ⟨p1, u1, f1, R1, rfl, hrd, hin, hnew, hb⟩
      obtain ⟨ap1, cp1, rfl, _⟩ := hrd.pages
      obtain ⟨au1, cu1, rfl, _⟩ := hrd.unread
      obtain ⟨af1, cf1, rfl, _⟩ := hrd.faults
      have HDv1 := Lib.hid hrd
      have HS51 : Hid (Hp w [.cd C, .ob B1 27 (dvCells (.slice apx X.pages.length cpx) X (.slice aux X.unread.length cux) (.slice afx X.faults.length cfx)), .rd Rx, .rd R1] w51) := (HS50.out).addrd hb R1 hin (fun r hr => (hnew r hr).elim .inl (fun h => .inr ⟨.rd Rx, List.mem_of_getElem? (i := 2) rfl, List.mem_map.2 ⟨r, h, rfl⟩⟩))
      clear hb hin hnew hrd
      clear HS50
      go_wp2_with (first | ((with_reducible refine wpList_alloc_ob 27 (dvCells nilS dvNil nilS nilS) ?_ ?_); (exact alloc_dv); simp only [Act.put, List.setIfInBounds_toArray, List.set_cons_zero, List.set_cons_succ]) | ((with_reducible refine wpList_store_ob 27 (.tmp 15) (w51.heap.size) (dvCells (.slice ap1 x1.pages.length cp1) x1 (.slice au1 x1.unread.length cu1) (.slice af1 x1.faults.length cf1)) (dvCells nilS dvNil nilS nilS) 27 ?_ ?_ ?_ ?_ ?_ ?_ ?_); (exact rfl); (exact rfl); (exact ((HS51.out).put 27 (dvCells nilS dvNil nilS nilS)).get 4 rfl); (exact info_dv); (exact rfl); (exact (oneCell_dv _ _ _ _ _ _ _ _ _ _)); skip) | ((with_reducible refine wpList_load_ob 27 (.tmp 15) (w51.heap.size) (dvCells (.slice ap1 x1.pages.length cp1) x1 (.slice au1 x1.unread.length cu1) (.slice af1 x1.faults.length cf1)) 27 HUD.out ?_ ?_ ?_ ?_ ?_); (exact rfl); (exact (((HS51.out).put 27 (dvCells nilS dvNil nilS nilS)).row 4 rfl (dvCells (.slice ap1 x1.pages.length cp1) x1 (.slice au1 x1.unread.length cu1) (.slice af1 x1.faults.length cf1))).get 4 rfl); (exact rfl); (exact info_dv); simp only [Act.put, List.setIfInBounds_toArray, List.set_cons_zero, List.set_cons_succ]))
      refine (dv_as HT2.out (tear_any 1 s n _ HDv1.out ((((HS51.out).put 27 (dvCells nilS dvNil nilS nilS)).row 4 rfl (dvCells (.slice ap1 x1.pages.length cp1) x1 (.slice au1 x1.unread.length cu1) (.slice af1 x1.faults.length cf1))).reads 3 rfl) HO1.out.ok.goodDv HSm.out HO1.out.ok.pg HO1.out.ok.fl)).mono ?_
      rintro e w52 ⟨p2, u2, f2, R2, rfl, hrd, hin, hnew, hb⟩
      obtain ⟨ap2, cp2, rfl, _⟩ := hrd.pages
      obtain ⟨au2, cu2, rfl, _⟩ := hrd.unread
      obtain ⟨af2, cf2, rfl, _⟩ := hrd.faults
      have HDv2 := Lib.hid hrd
      have HS52 : Hid (Hp w [.cd C, .ob B1 27 (dvCells (.slice apx X.pages.length cpx) X (.slice aux X.unread.length cux) (.slice afx X.faults.length cfx)), .rd Rx, .rd R1, .ob (w51.heap.size) 27 (dvCells (.slice ap1 x1.pages.length cp1) x1 (.slice au1 x1.unread.length cu1) (.slice af1 x1.faults.length cf1)), .rd R2] w52) := (((HS51.out).put 27 (dvCells nilS dvNil nilS nilS)).row 4 rfl (dvCells (.slice ap1 x1.pages.length cp1) x1 (.slice au1 x1.unread.length cu1) (.slice af1 x1.faults.length cf1))).addrd hb R2 hin (fun r hr => (hnew r hr).elim .inl (fun h => .inr ⟨.rd R1, List.mem_of_getElem? (i := 3) rfl, List.mem_map.2 ⟨r, h, rfl⟩⟩))
      clear hb hin hnew hrd
      clear HS51
      generalize w51.heap.size = B42 at *
      go_upto_region 12 with (first | ((with_reducible refine wpList_store_ob 27 (.tmp 15) B42 (dvCells (.slice ap2 x2.pages.length cp2) x2 (.slice au2 x2.unread.length cu2) (.slice af2 x2.faults.length cf2)) (dvCells (.slice ap1 x1.pages.length cp1) x1 (.slice au1 x1.unread.length cu1) (.slice af1 x1.faults.length cf1)) 27 ?_ ?_ ?_ ?_ ?_ ?_ ?_); (exact rfl); (exact rfl); (exact (HS52.out).get 4 rfl); (exact info_dv); (exact rfl); (exact (oneCell_dv _ _ _ _ _ _ _ _ _ _)); skip))
      have HS53 : Hid (Hp w [.cd C, .ob B1 27 (dvCells (.slice apx X.pages.length cpx) X (.slice aux X.unread.length cux) (.slice afx X.faults.length cfx)), .rd Rx, .rd R1, .ob B42 27 (dvCells (.slice ap2 x2.pages.length cp2) x2 (.slice au2 x2.unread.length cu2) (.slice af2 x2.faults.length cf2)), .rd R2] (w52.setRow B42 (dvCells (.slice ap2 x2.pages.length cp2) x2 (.slice au2 x2.unread.length cu2) (.slice af2 x2.faults.length cf2)).toArray)) := (HS52.out).row 4 rfl (dvCells (.slice ap2 x2.pages.length cp2) x2 (.slice au2 x2.unread.length cu2) (.slice af2 x2.faults.length cf2))
      clear HS52
      generalize (w52.setRow B42 (dvCells (.slice ap2 x2.pages.length cp2) x2 (.slice au2 x2.unread.length cu2) (.slice af2 x2.faults.length cf2)).toArray) = w53 at *
      have HS54 : Hid (Hp w [.cd C, .ob B1 27 (dvCells (.slice apx X.pages.length cpx) X (.slice aux X.unread.length cux) (.slice afx X.faults.length cfx)), .ob B42 27 (dvCells (.slice ap2 x2.pages.length cp2) x2 (.slice au2 x2.unread.length cu2) (.slice af2 x2.faults.length cf2)), .rd Rx, .rd R2] w53) := HS53.out.pull [0, 1, 4, 2, 5] rfl (pull_nd HS53.out.nd [0, 1, 4, 2, 5] rfl (by decide))
      clear HS53
      clear hma hmb hw1 hw2
      obtain ⟨g2, o2, ha2, hn2, _, hc2⟩ := Ter.at HO2.out HDv2.out
      have HP2 : Hid ((dvCells (.slice ap2 x2.pages.length cp2) x2 (.slice au2 x2.unread.length cu2) (.slice af2 x2.faults.length cf2))[0]? = some (.slice (some ⟨g2, o2, none⟩) 2 cp2)) := by show _ = _; rw [ha2, hn2]; rfl
      have HC2 := Lib.hid hc2
      clear ha2 hn2 hc2
      have c0 := HS54.out.at 2 rfl 0 HP2.out
      have hsz1 : s1.size = 256 := HSz1.out
      have hsz : s.size = 256 := HSz.out
      have hmax := HMx.out
      go_upto_region 15 with (fail)
      clear c0 hmax
      have hk6 : (k : Int) ≤ 256 := by have := HK.out; omega
      have hk0 : (0 : Int) ≤ (k : Int) := by omega
      have HW2 : Hid ((dvCells (.slice ap2 x2.pages.length cp2) x2 (.slice au2 x2.unread.length cu2) (.slice af2 x2.faults.length cf2))[1]? = some (.int .i64 1)) := Lib.hid (by rw [← HO2.out.wr]; rfl)
      have HWx : Hid ((dvCells (.slice apx X.pages.length cpx) X (.slice aux X.unread.length cux) (.slice afx X.faults.length cfx))[1]? = some (.int .i64 1)) := Lib.hid (by rw [← HOX.out.wr]; rfl)
      refine wp_region_held_drew (S := fun w' => Hold w.heap.size [.ob B1 27 (dvCells (.slice apx X.pages.length cpx) X (.slice aux X.unread.length cux) (.slice afx X.faults.length cfx)), .ob B42 27 (dvCells (.slice ap2 x2.pages.length cp2) x2 (.slice au2 x2.unread.length cu2) (.slice af2 x2.faults.length cf2)), .rd Rx, .rd R2] w') (by kernel_rfl) ((HS54.out).drew.pick [1, 2, 3, 4] rfl) (fun hHeld => ?_)
      refine wpAnyH_take (i := 0) (oi := { dst := some 100, op := Op.fieldAddr 27 (Operand.tmp 15) 0, type := 0, pos := "more.go:58", after := #[], guard := none }) (v := ?q17v) rfl (by kernel_rfl) (by kernel_rfl) (by kernel_rfl) (fun _ _ _ h => h) (Or.inl ⟨by rfl, ?q17h⟩) hHeld ?q17r
      case q17h => (intro wq hSw; clear hSw; go_simp; try with_reducible rfl)
      try simp only [Act.put, List.setIfInBounds_toArray, List.set_cons_zero, List.set_cons_succ]
      refine wpAnyH_take (i := 1) (oi := { dst := some 101, op := Op.load 23 (Operand.tmp 100), type := 23, pos := "more.go:58", after := #[{ on := 0, ground := Ground.data }], guard := none }) (v := ?q18v) rfl (by kernel_rfl) (by kernel_rfl) (by kernel_rfl) (fun _ _ _ h => h) (Or.inl ⟨by rfl, ?q18h⟩) hHeld ?q18r
      case q18h => (intro wq hSw; have q0 := hSw.at 1 rfl 0 HP2.out; clear hSw; go_simp; try with_reducible rfl)
      try simp only [Act.put, List.setIfInBounds_toArray, List.set_cons_zero, List.set_cons_succ]
      refine wpAnyH_take (i := 2) (oi := { dst := some 102, op := Op.indexAddr 23 (Operand.tmp 101) (Operand.const (Value.int IntKind.i64 1)), type := 0, pos := "more.go:58", after := #[{ on := 1, ground := Ground.data }], guard := none }) (v := ?q19v) rfl (by kernel_rfl) (by kernel_rfl) (by kernel_rfl) (fun _ _ _ h => h) (Or.inl ⟨by rfl, ?q19h⟩) hHeld ?q19r
      case q19h => (intro wq hSw; clear hSw; go_simp; try with_reducible rfl)
      try simp only [Act.put, List.setIfInBounds_toArray, List.set_cons_zero, List.set_cons_succ]
      refine wpAnyH_take (i := 3) (oi := { dst := some 103, op := Op.load 9 (Operand.tmp 102), type := 9, pos := "more.go:58", after := #[{ on := 2, ground := Ground.data }], guard := none }) (v := ?q20v) rfl (by kernel_rfl) (by kernel_rfl) (by kernel_rfl) (fun _ _ _ h => h) (Or.inl ⟨by rfl, ?q20h⟩) hHeld ?q20r
      case q20h => (intro wq hSw; have q1 := HC2.out wq (hSw (.rd R2) (List.mem_of_getElem? (i := 3) rfl)); clear hSw; go_simp; try with_reducible rfl)
      try simp only [Act.put, List.setIfInBounds_toArray, List.set_cons_zero, List.set_cons_succ]
      refine wpAnyH_take (i := 4) (oi := { dst := some 104, op := Op.move (Operand.tmp 12), type := 9, pos := "more.go:58", after := #[], guard := none }) (v := ?q21v) rfl (by kernel_rfl) (by kernel_rfl) (by kernel_rfl) (fun _ _ _ h => h) (Or.inl ⟨by rfl, ?q21h⟩) hHeld ?q21r
      case q21h => (intro wq hSw; clear hSw; go_simp; try with_reducible rfl)
      try simp only [Act.put, List.setIfInBounds_toArray, List.set_cons_zero, List.set_cons_succ]
      refine wpAnyH_take (i := 5) (oi := { dst := some 105, op := Op.move (Operand.tmp 18), type := 3, pos := "more.go:58", after := #[], guard := none }) (v := ?q22v) rfl (by kernel_rfl) (by kernel_rfl) (by kernel_rfl) (fun _ _ _ h => h) (Or.inl ⟨by rfl, ?q22h⟩) hHeld ?q22r
      case q22h => (intro wq hSw; clear hSw; go_simp; try with_reducible rfl)
      try simp only [Act.put, List.setIfInBounds_toArray, List.set_cons_zero, List.set_cons_succ]
      refine wpAnyH_take (i := 6) (oi := { dst := some 106, op := Op.slice 9 (Operand.tmp 104) none (some (Operand.tmp 105)) none, type := 9, pos := "more.go:58", after := #[{ on := 4, ground := Ground.data }, { on := 5, ground := Ground.data }], guard := none }) (v := ?q23v) rfl (by kernel_rfl) (by kernel_rfl) (by kernel_rfl) (fun _ _ _ h => h) (Or.inl ⟨by rfl, ?q23h⟩) hHeld ?q23r
      case q23h => (intro wq hSw; clear hSw; go_simp; try with_reducible rfl)
      try simp only [Act.put, List.setIfInBounds_toArray, List.set_cons_zero, List.set_cons_succ]
      refine wpAnyH_take (i := 7) (oi := { dst := some 107, op := Op.move (Operand.tmp 11), type := 9, pos := "more.go:58", after := #[], guard := none }) (v := ?q24v) rfl (by kernel_rfl) (by kernel_rfl) (by kernel_rfl) (fun _ _ _ h => h) (Or.inl ⟨by rfl, ?q24h⟩) hHeld ?q24r
      case q24h => (intro wq hSw; clear hSw; go_simp; try with_reducible rfl)
      try simp only [Act.put, List.setIfInBounds_toArray, List.set_cons_zero, List.set_cons_succ]
      refine wpAnyH_take (i := 8) (oi := { dst := some 108, op := Op.move (Operand.tmp 18), type := 3, pos := "more.go:58", after := #[], guard := none }) (v := ?q25v) rfl (by kernel_rfl) (by kernel_rfl) (by kernel_rfl) (fun _ _ _ h => h) (Or.inl ⟨by rfl, ?q25h⟩) hHeld ?q25r
      case q25h => (intro wq hSw; clear hSw; go_simp; try with_reducible rfl)
      try simp only [Act.put, List.setIfInBounds_toArray, List.set_cons_zero, List.set_cons_succ]
      refine wpAnyH_take (i := 9) (oi := { dst := some 109, op := Op.slice 9 (Operand.tmp 107) (some (Operand.tmp 108)) none none, type := 9, pos := "more.go:58", after := #[{ on := 7, ground := Ground.data }, { on := 8, ground := Ground.data }], guard := none }) (v := ?q26v) rfl (by kernel_rfl) (by kernel_rfl) (by kernel_rfl) (fun _ _ _ h => h) (Or.inl ⟨by rfl, ?q26h⟩) hHeld ?q26r
      case q26h => (intro wq hSw; clear hSw; go_simp; try with_reducible rfl)
      try simp only [Act.put, List.setIfInBounds_toArray, List.set_cons_zero, List.set_cons_succ]
      refine wpAnyH_take (i := 10) (oi := { dst := some 110, op := Op.binOp BinOp.add 9 (Operand.tmp 106) (Operand.tmp 109) 9, type := 9, pos := "more.go:58", after := #[{ on := 6, ground := Ground.data }, { on := 9, ground := Ground.data }], guard := none }) (v := ?q27v) rfl (by kernel_rfl) (by kernel_rfl) (by kernel_rfl) (fun _ _ _ h => h) (Or.inl ⟨by rfl, ?q27h⟩) hHeld ?q27r
      case q27h => (intro wq hSw; have hcc : ¬ 9223372036854775807 < min k 256 + (256 - k) := (by omega); clear hSw; go_simp; try with_reducible rfl)
      try simp only [Act.put, List.setIfInBounds_toArray, List.set_cons_zero, List.set_cons_succ]
      refine wpAnyH_take (i := 11) (oi := { dst := some 111, op := Op.binOp BinOp.neq 9 (Operand.tmp 103) (Operand.tmp 110) 9, type := 4, pos := "more.go:58", after := #[{ on := 3, ground := Ground.data }, { on := 10, ground := Ground.data }], guard := none }) (v := .bool false) rfl (by kernel_rfl) (by kernel_rfl) (by kernel_rfl) (fun _ _ _ h => h) (Or.inl ⟨by rfl, ?q28h⟩) hHeld ?q28r
      case q28h => (intro wq hSw; clear hSw; go_simp; try with_reducible rfl)
      try simp only [Act.put, List.setIfInBounds_toArray, List.set_cons_zero, List.set_cons_succ]
      refine wpAnyH_take (i := 12) (oi := { dst := some 112, op := Op.move (Operand.tmp 111), type := 4, pos := "more.go:58", after := #[{ on := 11, ground := Ground.data }], guard := none }) (v := ?q29v) rfl (by kernel_rfl) (by kernel_rfl) (by kernel_rfl) (fun _ _ _ h => h) (Or.inl ⟨by rfl, ?q29h⟩) hHeld ?q29r
      case q29h => (intro wq hSw; clear hSw; go_simp; try with_reducible rfl)
      try simp only [Act.put, List.setIfInBounds_toArray, List.set_cons_zero, List.set_cons_succ]
      refine wpAnyH_take (i := 13) (oi := { dst := some 113, op := Op.fieldAddr 27 (Operand.tmp 15) 1, type := 0, pos := "more.go:58", after := #[{ on := 12, ground := Ground.guard }], guard := some (12, false) }) (v := ?q30v) rfl (by kernel_rfl) (by kernel_rfl) (by kernel_rfl) (fun _ _ _ h => h) (Or.inl ⟨by rfl, ?q30h⟩) hHeld ?q30r
      case q30h => (intro wq hSw; clear hSw; go_simp; try with_reducible rfl)
      try simp only [Act.put, List.setIfInBounds_toArray, List.set_cons_zero, List.set_cons_succ]
      refine wpAnyH_take (i := 14) (oi := { dst := some 114, op := Op.load 3 (Operand.tmp 113), type := 3, pos := "more.go:58", after := #[{ on := 13, ground := Ground.data }, { on := 12, ground := Ground.guard }], guard := some (12, false) }) (v := ?q31v) rfl (by kernel_rfl) (by kernel_rfl) (by kernel_rfl) (fun _ _ _ h => h) (Or.inl ⟨by rfl, ?q31h⟩) hHeld ?q31r
      case q31h => (intro wq hSw; have q2 := hSw.at 1 rfl 1 HW2.out; clear hSw; go_simp; try with_reducible rfl)
      try simp only [Act.put, List.setIfInBounds_toArray, List.set_cons_zero, List.set_cons_succ]
      refine wpAnyH_take (i := 15) (oi := { dst := some 115, op := Op.fieldAddr 27 (Operand.tmp 8) 1, type := 0, pos := "more.go:58", after := #[{ on := 12, ground := Ground.guard }], guard := some (12, false) }) (v := ?q32v) rfl (by kernel_rfl) (by kernel_rfl) (by kernel_rfl) (fun _ _ _ h => h) (Or.inl ⟨by rfl, ?q32h⟩) hHeld ?q32r
      case q32h => (intro wq hSw; clear hSw; go_simp; try with_reducible rfl)
      try simp only [Act.put, List.setIfInBounds_toArray, List.set_cons_zero, List.set_cons_succ]
      refine wpAnyH_take (i := 16) (oi := { dst := some 116, op := Op.load 3 (Operand.tmp 115), type := 3, pos := "more.go:58", after := #[{ on := 15, ground := Ground.data }, { on := 12, ground := Ground.guard }], guard := some (12, false) }) (v := ?q33v) rfl (by kernel_rfl) (by kernel_rfl) (by kernel_rfl) (fun _ _ _ h => h) (Or.inl ⟨by rfl, ?q33h⟩) hHeld ?q33r
      case q33h => (intro wq hSw; have q3 := hSw.at 0 rfl 1 HWx.out; clear hSw; go_simp; try with_reducible rfl)
      try simp only [Act.put, List.setIfInBounds_toArray, List.set_cons_zero, List.set_cons_succ]
      refine wpAnyH_take (i := 17) (oi := { dst := some 117, op := Op.binOp BinOp.neq 3 (Operand.tmp 114) (Operand.tmp 116) 3, type := 4, pos := "more.go:58", after := #[{ on := 14, ground := Ground.data }, { on := 16, ground := Ground.data }, { on := 12, ground := Ground.guard }], guard := some (12, false) }) (v := ?q34v) rfl (by kernel_rfl) (by kernel_rfl) (by kernel_rfl) (fun _ _ _ h => h) (Or.inl ⟨by rfl, ?q34h⟩) hHeld ?q34r
      case q34h => (intro wq hSw; clear hSw; go_simp; try with_reducible rfl)
      try simp only [Act.put, List.setIfInBounds_toArray, List.set_cons_zero, List.set_cons_succ]
      refine wpAnyH_take (i := 18) (oi := { dst := some 118, op := Op.pick (Operand.tmp 112) (Operand.const (Value.bool true)) (Operand.tmp 117), type := 4, pos := "more.go:58", after := #[{ on := 12, ground := Ground.data }, { on := 17, ground := Ground.data }], guard := none }) (v := ?q35v) rfl (by kernel_rfl) (by kernel_rfl) (by kernel_rfl) (fun _ _ _ h => h) (Or.inl ⟨by rfl, ?q35h⟩) hHeld ?q35r
      case q35h => (intro wq hSw; clear hSw; go_simp; try with_reducible rfl)
      try simp only [Act.put, List.setIfInBounds_toArray, List.set_cons_zero, List.set_cons_succ]
      refine wpAnyH_done (by kernel_rfl) ?_ _
      clear hHeld
      have HS55 : Hid (Hp w [.cd C, .ob B1 27 (dvCells (.slice apx X.pages.length cpx) X (.slice aux X.unread.length cux) (.slice afx X.faults.length cfx)), .ob B42 27 (dvCells (.slice ap2 x2.pages.length cp2) x2 (.slice au2 x2.unread.length cu2) (.slice af2 x2.faults.length cf2)), .rd Rx, .rd R2] (w53.drew)) := (HS54.out).drew
      clear HS54
      generalize w53.drew = w54 at *
      clear hsz1 hsz
      by_cases hk256 : k = 256
      · have hki : (k : Int) = 256 := by omega
        clear hk256 hk6 hk0
        go_wp2_with fail
        go_ret
        exact ⟨rfl, HS55.out.old⟩
      · have hkl : (k : Int) < 256 := by omega
        obtain ⟨y, z, eI, oY, eW, oZ⟩ := HOX.out.fault HSz.out (k := k) (by omega)
        have HI := Lib.hid eI
        have HOY := Lib.hid oY
        have HWr := Lib.hid eW
        have HOZ := Lib.hid oZ
        have HG := Lib.hid (fltTear_good (k := k) (by omega))
        clear eI oY eW oZ hk256 hk6
        go_wp2_with (first | ((with_reducible refine wpList_load_ob 27 (.tmp 8) B1 (dvCells (.slice apx X.pages.length cpx) X (.slice aux X.unread.length cux) (.slice afx X.faults.length cfx)) 27 HUD.out ?_ ?_ ?_ ?_ ?_); (exact rfl); (exact (HS55.out).get 1 rfl); (exact rfl); (exact info_dv); simp only [Act.put, List.setIfInBounds_toArray, List.set_cons_zero, List.set_cons_succ]) | ((with_reducible refine wpList_build_v 29 (.agg (fltCells (fltTear k)).toArray) ?_ ?_); (intro W; simp only [List.map_toArray, List.map_cons, List.map_nil]; exact build_tear k W); simp only [Act.put, List.setIfInBounds_toArray, List.set_cons_zero, List.set_cons_succ]))
        refine (dv_as HI.out (inject_any (fltTear k) _ HDvx.out ((HS55.out).reads 3 rfl) HOX.out.ok.goodDv HG.out HOX.out.ok.pg HOX.out.ok.fl)).mono ?_
        rintro e w55 ⟨py, uy, fy, Ry, rfl, hrd, hin, hnew, hb⟩
        obtain ⟨apy, cpy, rfl, _⟩ := hrd.pages
        obtain ⟨auy, cuy, rfl, _⟩ := hrd.unread
        obtain ⟨afy, cfy, rfl, _⟩ := hrd.faults
        have HDvy := Lib.hid hrd
        have HS56 : Hid (Hp w [.cd C, .ob B1 27 (dvCells (.slice apx X.pages.length cpx) X (.slice aux X.unread.length cux) (.slice afx X.faults.length cfx)), .ob B42 27 (dvCells (.slice ap2 x2.pages.length cp2) x2 (.slice au2 x2.unread.length cu2) (.slice af2 x2.faults.length cf2)), .rd Rx, .rd R2, .rd Ry] w55) := (HS55.out).addrd hb Ry hin (fun r hr => (hnew r hr).elim .inl (fun h => .inr ⟨.rd Rx, List.mem_of_getElem? (i := 3) rfl, List.mem_map.2 ⟨r, h, rfl⟩⟩))
        clear hb hin hnew hrd
        clear HS55
        go_wp2_with (first | ((with_reducible refine wpList_alloc_ob 27 (dvCells nilS dvNil nilS nilS) ?_ ?_); (exact alloc_dv); simp only [Act.put, List.setIfInBounds_toArray, List.set_cons_zero, List.set_cons_succ]) | ((with_reducible refine wpList_store_ob 27 (.tmp 19) (w55.heap.size) (dvCells (.slice apy y.pages.length cpy) y (.slice auy y.unread.length cuy) (.slice afy y.faults.length cfy)) (dvCells nilS dvNil nilS nilS) 27 ?_ ?_ ?_ ?_ ?_ ?_ ?_); (exact rfl); (exact rfl); (exact ((HS56.out).put 27 (dvCells nilS dvNil nilS nilS)).get 6 rfl); (exact info_dv); (exact rfl); (exact (oneCell_dv _ _ _ _ _ _ _ _ _ _)); skip) | ((with_reducible refine wpList_load_ob 27 (.tmp 19) (w55.heap.size) (dvCells (.slice apy y.pages.length cpy) y (.slice auy y.unread.length cuy) (.slice afy y.faults.length cfy)) 27 HUD.out ?_ ?_ ?_ ?_ ?_); (exact rfl); (exact (((HS56.out).put 27 (dvCells nilS dvNil nilS nilS)).row 6 rfl (dvCells (.slice apy y.pages.length cpy) y (.slice auy y.unread.length cuy) (.slice afy y.faults.length cfy))).get 6 rfl); (exact rfl); (exact info_dv); simp only [Act.put, List.setIfInBounds_toArray, List.set_cons_zero, List.set_cons_succ]))
        refine (dv_as HWr.out (write_any 1 s _ HDvy.out ((((HS56.out).put 27 (dvCells nilS dvNil nilS nilS)).row 6 rfl (dvCells (.slice apy y.pages.length cpy) y (.slice auy y.unread.length cuy) (.slice afy y.faults.length cfy))).reads 5 rfl) HOY.out.goodDv HSm.out HOY.out.pg HOY.out.fl)).mono ?_
        rintro e w56 ⟨pz, uz, fz, Rz, rfl, hrd, hin, hnew, hb⟩
        obtain ⟨apz, cpz, rfl, _⟩ := hrd.pages
        obtain ⟨auz, cuz, rfl, _⟩ := hrd.unread
        obtain ⟨afz, cfz, rfl, _⟩ := hrd.faults
        have HDvz := Lib.hid hrd
        have HS57 : Hid (Hp w [.cd C, .ob B1 27 (dvCells (.slice apx X.pages.length cpx) X (.slice aux X.unread.length cux) (.slice afx X.faults.length cfx)), .ob B42 27 (dvCells (.slice ap2 x2.pages.length cp2) x2 (.slice au2 x2.unread.length cu2) (.slice af2 x2.faults.length cf2)), .rd Rx, .rd R2, .rd Ry, .ob (w55.heap.size) 27 (dvCells (.slice apy y.pages.length cpy) y (.slice auy y.unread.length cuy) (.slice afy y.faults.length cfy)), .rd Rz] w56) := (((HS56.out).put 27 (dvCells nilS dvNil nilS nilS)).row 6 rfl (dvCells (.slice apy y.pages.length cpy) y (.slice auy y.unread.length cuy) (.slice afy y.faults.length cfy))).addrd hb Rz hin (fun r hr => (hnew r hr).elim .inl (fun h => .inr ⟨.rd Ry, List.mem_of_getElem? (i := 5) rfl, List.mem_map.2 ⟨r, h, rfl⟩⟩))
        clear hb hin hnew hrd
        clear HS56
        generalize w55.heap.size = B43 at *
        go_upto_region 21 with (first | ((with_reducible refine wpList_store_ob 27 (.tmp 19) B43 (dvCells (.slice apz z.pages.length cpz) z (.slice auz z.unread.length cuz) (.slice afz z.faults.length cfz)) (dvCells (.slice apy y.pages.length cpy) y (.slice auy y.unread.length cuy) (.slice afy y.faults.length cfy)) 27 ?_ ?_ ?_ ?_ ?_ ?_ ?_); (exact rfl); (exact rfl); (exact (HS57.out).get 6 rfl); (exact info_dv); (exact rfl); (exact (oneCell_dv _ _ _ _ _ _ _ _ _ _)); skip))
        have HS58 : Hid (Hp w [.cd C, .ob B1 27 (dvCells (.slice apx X.pages.length cpx) X (.slice aux X.unread.length cux) (.slice afx X.faults.length cfx)), .ob B42 27 (dvCells (.slice ap2 x2.pages.length cp2) x2 (.slice au2 x2.unread.length cu2) (.slice af2 x2.faults.length cf2)), .rd Rx, .rd R2, .rd Ry, .ob B43 27 (dvCells (.slice apz z.pages.length cpz) z (.slice auz z.unread.length cuz) (.slice afz z.faults.length cfz)), .rd Rz] (w56.setRow B43 (dvCells (.slice apz z.pages.length cpz) z (.slice auz z.unread.length cuz) (.slice afz z.faults.length cfz)).toArray)) := (HS57.out).row 6 rfl (dvCells (.slice apz z.pages.length cpz) z (.slice auz z.unread.length cuz) (.slice afz z.faults.length cfz))
        clear HS57
        generalize (w56.setRow B43 (dvCells (.slice apz z.pages.length cpz) z (.slice auz z.unread.length cuz) (.slice afz z.faults.length cfz)).toArray) = w57 at *
        have HS59 : Hid (Hp w [.cd C, .ob B42 27 (dvCells (.slice ap2 x2.pages.length cp2) x2 (.slice au2 x2.unread.length cu2) (.slice af2 x2.faults.length cf2)), .ob B43 27 (dvCells (.slice apz z.pages.length cpz) z (.slice auz z.unread.length cuz) (.slice afz z.faults.length cfz)), .rd R2, .rd Rz] w57) := HS58.out.pull [0, 2, 6, 4, 7] rfl (pull_nd HS58.out.nd [0, 2, 6, 4, 7] rfl (by decide))
        clear HS58
        clear hkl hk0
        obtain ⟨gz, oz, haz, hnz, _, hcz⟩ := Ter.at HOZ.out HDvz.out
        have HPz : Hid ((dvCells (.slice apz z.pages.length cpz) z (.slice auz z.unread.length cuz) (.slice afz z.faults.length cfz))[0]? = some (.slice (some ⟨gz, oz, none⟩) 2 cpz)) := by show _ = _; rw [haz, hnz]; rfl
        have HCz := Lib.hid hcz
        have HWz : Hid ((dvCells (.slice apz z.pages.length cpz) z (.slice auz z.unread.length cuz) (.slice afz z.faults.length cfz))[1]? = some (.int .i64 2)) := Lib.hid (by rw [← HOZ.out.wr]; rfl)
        have HVz : Hid (dvOkB z = true) := HOZ.out.ok.ok
        clear haz hnz hcz
        refine wp_region_held_drew (S := fun w' => Hold w.heap.size [.ob B42 27 (dvCells (.slice ap2 x2.pages.length cp2) x2 (.slice au2 x2.unread.length cu2) (.slice af2 x2.faults.length cf2)), .ob B43 27 (dvCells (.slice apz z.pages.length cpz) z (.slice auz z.unread.length cuz) (.slice afz z.faults.length cfz)), .rd R2, .rd Rz] w') (by kernel_rfl) ((HS59.out).drew.pick [1, 2, 3, 4] rfl) (fun hHeld => ?_)
        refine wpAnyH_take (i := 0) (oi := { dst := some 134, op := Op.move (Operand.tmp 20), type := 35, pos := "more.go:66", after := #[], guard := none }) (v := ?q36v) rfl (by kernel_rfl) (by kernel_rfl) (by kernel_rfl) (fun _ _ _ h => h) (Or.inl ⟨by rfl, ?q36h⟩) hHeld ?q36r
        case q36h => (intro wq hSw; clear hSw; go_simp; try with_reducible rfl)
        try simp only [Act.put, List.setIfInBounds_toArray, List.set_cons_zero, List.set_cons_succ]
        refine wpAnyH_take (i := 1) (oi := { dst := some 135, op := Op.binOp BinOp.eql 35 (Operand.tmp 134) (Operand.const (Value.int IntKind.i64 0)) 35, type := 4, pos := "more.go:66", after := #[{ on := 0, ground := Ground.data }], guard := none }) (v := ?q37v) rfl (by kernel_rfl) (by kernel_rfl) (by kernel_rfl) (fun _ _ _ h => h) (Or.inl ⟨by rfl, ?q37h⟩) hHeld ?q37r
        case q37h => (intro wq hSw; clear hSw; go_simp; try with_reducible rfl)
        try simp only [Act.put, List.setIfInBounds_toArray, List.set_cons_zero, List.set_cons_succ]
        refine wpAnyH_take (i := 2) (oi := { dst := some 136, op := Op.move (Operand.tmp 135), type := 4, pos := "more.go:66", after := #[{ on := 1, ground := Ground.data }], guard := none }) (v := ?q38v) rfl (by kernel_rfl) (by kernel_rfl) (by kernel_rfl) (fun _ _ _ h => h) (Or.inl ⟨by rfl, ?q38h⟩) hHeld ?q38r
        case q38h => (intro wq hSw; clear hSw; go_simp; try with_reducible rfl)
        try simp only [Act.put, List.setIfInBounds_toArray, List.set_cons_zero, List.set_cons_succ]
        refine wpAnyH_take (i := 3) (oi := { dst := some 137, op := Op.move (Operand.tmp 21), type := 35, pos := "more.go:66", after := #[{ on := 2, ground := Ground.guard }], guard := some (2, true) }) (v := ?q39v) rfl (by kernel_rfl) (by kernel_rfl) (by kernel_rfl) (fun _ _ _ h => h) (Or.inl ⟨by rfl, ?q39h⟩) hHeld ?q39r
        case q39h => (intro wq hSw; clear hSw; go_simp; try with_reducible rfl)
        try simp only [Act.put, List.setIfInBounds_toArray, List.set_cons_zero, List.set_cons_succ]
        refine wpAnyH_take (i := 4) (oi := { dst := some 138, op := Op.binOp BinOp.eql 35 (Operand.tmp 137) (Operand.const (Value.int IntKind.i64 0)) 35, type := 4, pos := "more.go:66", after := #[{ on := 3, ground := Ground.data }, { on := 2, ground := Ground.guard }], guard := some (2, true) }) (v := ?q40v) rfl (by kernel_rfl) (by kernel_rfl) (by kernel_rfl) (fun _ _ _ h => h) (Or.inl ⟨by rfl, ?q40h⟩) hHeld ?q40r
        case q40h => (intro wq hSw; clear hSw; go_simp; try with_reducible rfl)
        try simp only [Act.put, List.setIfInBounds_toArray, List.set_cons_zero, List.set_cons_succ]
        refine wpAnyH_take (i := 5) (oi := { dst := some 139, op := Op.pick (Operand.tmp 136) (Operand.tmp 138) (Operand.const (Value.bool false)), type := 4, pos := "more.go:66", after := #[{ on := 2, ground := Ground.data }, { on := 4, ground := Ground.data }], guard := none }) (v := ?q41v) rfl (by kernel_rfl) (by kernel_rfl) (by kernel_rfl) (fun _ _ _ h => h) (Or.inl ⟨by rfl, ?q41h⟩) hHeld ?q41r
        case q41h => (intro wq hSw; clear hSw; go_simp; try with_reducible rfl)
        try simp only [Act.put, List.setIfInBounds_toArray, List.set_cons_zero, List.set_cons_succ]
        refine wpAnyH_take (i := 6) (oi := { dst := some 140, op := Op.move (Operand.tmp 139), type := 4, pos := "more.go:66", after := #[{ on := 5, ground := Ground.data }, { on := 2, ground := Ground.chain }], guard := none }) (v := ?q42v) rfl (by kernel_rfl) (by kernel_rfl) (by kernel_rfl) (fun _ _ _ h => h) (Or.inl ⟨by rfl, ?q42h⟩) hHeld ?q42r
        case q42h => (intro wq hSw; clear hSw; go_simp; try with_reducible rfl)
        try simp only [Act.put, List.setIfInBounds_toArray, List.set_cons_zero, List.set_cons_succ]
        refine wpAnyH_take (i := 7) (oi := { dst := some 141, op := Op.fieldAddr 27 (Operand.tmp 19) 1, type := 0, pos := "more.go:66", after := #[{ on := 6, ground := Ground.guard }], guard := some (6, true) }) (v := ?q43v) rfl (by kernel_rfl) (by kernel_rfl) (by kernel_rfl) (fun _ _ _ h => h) (Or.inl ⟨by rfl, ?q43h⟩) hHeld ?q43r
        case q43h => (intro wq hSw; clear hSw; go_simp; try with_reducible rfl)
        try simp only [Act.put, List.setIfInBounds_toArray, List.set_cons_zero, List.set_cons_succ]
        refine wpAnyH_take (i := 8) (oi := { dst := some 142, op := Op.load 3 (Operand.tmp 141), type := 3, pos := "more.go:66", after := #[{ on := 7, ground := Ground.data }, { on := 6, ground := Ground.guard }], guard := some (6, true) }) (v := ?q44v) rfl (by kernel_rfl) (by kernel_rfl) (by kernel_rfl) (fun _ _ _ h => h) (Or.inl ⟨by rfl, ?q44h⟩) hHeld ?q44r
        case q44h => (intro wq hSw; have q0 := hSw.at 1 rfl 1 HWz.out; clear hSw; go_simp; try with_reducible rfl)
        try simp only [Act.put, List.setIfInBounds_toArray, List.set_cons_zero, List.set_cons_succ]
        refine wpAnyH_take (i := 9) (oi := { dst := some 143, op := Op.binOp BinOp.eql 3 (Operand.tmp 142) (Operand.const (Value.int IntKind.i64 2)) 3, type := 4, pos := "more.go:66", after := #[{ on := 8, ground := Ground.data }, { on := 6, ground := Ground.guard }], guard := some (6, true) }) (v := ?q45v) rfl (by kernel_rfl) (by kernel_rfl) (by kernel_rfl) (fun _ _ _ h => h) (Or.inl ⟨by rfl, ?q45h⟩) hHeld ?q45r
        case q45h => (intro wq hSw; clear hSw; go_simp; try with_reducible rfl)
        try simp only [Act.put, List.setIfInBounds_toArray, List.set_cons_zero, List.set_cons_succ]
        refine wpAnyH_take (i := 10) (oi := { dst := some 144, op := Op.pick (Operand.tmp 140) (Operand.tmp 143) (Operand.const (Value.bool false)), type := 4, pos := "more.go:66", after := #[{ on := 6, ground := Ground.data }, { on := 9, ground := Ground.data }], guard := none }) (v := ?q46v) rfl (by kernel_rfl) (by kernel_rfl) (by kernel_rfl) (fun _ _ _ h => h) (Or.inl ⟨by rfl, ?q46h⟩) hHeld ?q46r
        case q46h => (intro wq hSw; clear hSw; go_simp; try with_reducible rfl)
        try simp only [Act.put, List.setIfInBounds_toArray, List.set_cons_zero, List.set_cons_succ]
        refine wpAnyH_take (i := 11) (oi := { dst := some 145, op := Op.move (Operand.tmp 144), type := 4, pos := "more.go:66", after := #[{ on := 10, ground := Ground.data }, { on := 6, ground := Ground.chain }], guard := none }) (v := ?q47v) rfl (by kernel_rfl) (by kernel_rfl) (by kernel_rfl) (fun _ _ _ h => h) (Or.inl ⟨by rfl, ?q47h⟩) hHeld ?q47r
        case q47h => (intro wq hSw; clear hSw; go_simp; try with_reducible rfl)
        try simp only [Act.put, List.setIfInBounds_toArray, List.set_cons_zero, List.set_cons_succ]
        refine wpAnyH_take (i := 12) (oi := { dst := some 146, op := Op.fieldAddr 27 (Operand.tmp 19) 0, type := 0, pos := "more.go:66", after := #[{ on := 11, ground := Ground.guard }], guard := some (11, true) }) (v := ?q48v) rfl (by kernel_rfl) (by kernel_rfl) (by kernel_rfl) (fun _ _ _ h => h) (Or.inl ⟨by rfl, ?q48h⟩) hHeld ?q48r
        case q48h => (intro wq hSw; clear hSw; go_simp; try with_reducible rfl)
        try simp only [Act.put, List.setIfInBounds_toArray, List.set_cons_zero, List.set_cons_succ]
        refine wpAnyH_take (i := 13) (oi := { dst := some 147, op := Op.load 23 (Operand.tmp 146), type := 23, pos := "more.go:66", after := #[{ on := 12, ground := Ground.data }, { on := 11, ground := Ground.guard }], guard := some (11, true) }) (v := ?q49v) rfl (by kernel_rfl) (by kernel_rfl) (by kernel_rfl) (fun _ _ _ h => h) (Or.inl ⟨by rfl, ?q49h⟩) hHeld ?q49r
        case q49h => (intro wq hSw; have q0 := hSw.at 1 rfl 0 HPz.out; clear hSw; go_simp; try with_reducible rfl)
        try simp only [Act.put, List.setIfInBounds_toArray, List.set_cons_zero, List.set_cons_succ]
        refine wpAnyH_take (i := 14) (oi := { dst := some 148, op := Op.call { callee := Callee.builtin Builtin.len, args := #[Operand.tmp 147], argTypes := #[23] }, type := 3, pos := "more.go:66", after := #[{ on := 13, ground := Ground.data }, { on := 11, ground := Ground.guard }], guard := some (11, true) }) (v := ?q50v) rfl (by kernel_rfl) (by kernel_rfl) (by kernel_rfl) (fun _ _ _ h => h) (Or.inl ⟨by rfl, ?q50h⟩) hHeld ?q50r
        case q50h => (intro wq hSw; clear hSw; go_simp; try with_reducible rfl)
        try simp only [Act.put, List.setIfInBounds_toArray, List.set_cons_zero, List.set_cons_succ]
        refine wpAnyH_take (i := 15) (oi := { dst := some 149, op := Op.binOp BinOp.eql 3 (Operand.tmp 148) (Operand.const (Value.int IntKind.i64 2)) 3, type := 4, pos := "more.go:66", after := #[{ on := 14, ground := Ground.data }, { on := 11, ground := Ground.guard }], guard := some (11, true) }) (v := ?q51v) rfl (by kernel_rfl) (by kernel_rfl) (by kernel_rfl) (fun _ _ _ h => h) (Or.inl ⟨by rfl, ?q51h⟩) hHeld ?q51r
        case q51h => (intro wq hSw; clear hSw; go_simp; try with_reducible rfl)
        try simp only [Act.put, List.setIfInBounds_toArray, List.set_cons_zero, List.set_cons_succ]
        refine wpAnyH_take (i := 16) (oi := { dst := some 150, op := Op.pick (Operand.tmp 145) (Operand.tmp 149) (Operand.const (Value.bool false)), type := 4, pos := "more.go:66", after := #[{ on := 11, ground := Ground.data }, { on := 15, ground := Ground.data }], guard := none }) (v := ?q52v) rfl (by kernel_rfl) (by kernel_rfl) (by kernel_rfl) (fun _ _ _ h => h) (Or.inl ⟨by rfl, ?q52h⟩) hHeld ?q52r
        case q52h => (intro wq hSw; clear hSw; go_simp; try with_reducible rfl)
        try simp only [Act.put, List.setIfInBounds_toArray, List.set_cons_zero, List.set_cons_succ]
        refine wpAnyH_take (i := 17) (oi := { dst := some 151, op := Op.move (Operand.tmp 150), type := 4, pos := "more.go:66", after := #[{ on := 16, ground := Ground.data }, { on := 11, ground := Ground.chain }], guard := none }) (v := ?q53v) rfl (by kernel_rfl) (by kernel_rfl) (by kernel_rfl) (fun _ _ _ h => h) (Or.inl ⟨by rfl, ?q53h⟩) hHeld ?q53r
        case q53h => (intro wq hSw; clear hSw; go_simp; try with_reducible rfl)
        try simp only [Act.put, List.setIfInBounds_toArray, List.set_cons_zero, List.set_cons_succ]
        refine wpAnyH_take (i := 18) (oi := { dst := some 152, op := Op.fieldAddr 27 (Operand.tmp 19) 0, type := 0, pos := "more.go:66", after := #[{ on := 17, ground := Ground.guard }], guard := some (17, true) }) (v := ?q54v) rfl (by kernel_rfl) (by kernel_rfl) (by kernel_rfl) (fun _ _ _ h => h) (Or.inl ⟨by rfl, ?q54h⟩) hHeld ?q54r
        case q54h => (intro wq hSw; clear hSw; go_simp; try with_reducible rfl)
        try simp only [Act.put, List.setIfInBounds_toArray, List.set_cons_zero, List.set_cons_succ]
        refine wpAnyH_take (i := 19) (oi := { dst := some 153, op := Op.load 23 (Operand.tmp 152), type := 23, pos := "more.go:66", after := #[{ on := 18, ground := Ground.data }, { on := 17, ground := Ground.guard }], guard := some (17, true) }) (v := ?q55v) rfl (by kernel_rfl) (by kernel_rfl) (by kernel_rfl) (fun _ _ _ h => h) (Or.inl ⟨by rfl, ?q55h⟩) hHeld ?q55r
        case q55h => (intro wq hSw; have q0 := hSw.at 1 rfl 0 HPz.out; clear hSw; go_simp; try with_reducible rfl)
        try simp only [Act.put, List.setIfInBounds_toArray, List.set_cons_zero, List.set_cons_succ]
        refine wpAnyH_take (i := 20) (oi := { dst := some 154, op := Op.indexAddr 23 (Operand.tmp 153) (Operand.const (Value.int IntKind.i64 1)), type := 0, pos := "more.go:66", after := #[{ on := 19, ground := Ground.data }, { on := 17, ground := Ground.guard }], guard := some (17, true) }) (v := ?q56v) rfl (by kernel_rfl) (by kernel_rfl) (by kernel_rfl) (fun _ _ _ h => h) (Or.inl ⟨by rfl, ?q56h⟩) hHeld ?q56r
        case q56h => (intro wq hSw; clear hSw; go_simp; try with_reducible rfl)
        try simp only [Act.put, List.setIfInBounds_toArray, List.set_cons_zero, List.set_cons_succ]
        refine wpAnyH_take (i := 21) (oi := { dst := some 155, op := Op.load 9 (Operand.tmp 154), type := 9, pos := "more.go:66", after := #[{ on := 20, ground := Ground.data }, { on := 17, ground := Ground.guard }], guard := some (17, true) }) (v := ?q57v) rfl (by kernel_rfl) (by kernel_rfl) (by kernel_rfl) (fun _ _ _ h => h) (Or.inl ⟨by rfl, ?q57h⟩) hHeld ?q57r
        case q57h => (intro wq hSw; have q0 := HCz.out wq (hSw (.rd Rz) (List.mem_of_getElem? (i := 3) rfl)); clear hSw; go_simp; try with_reducible rfl)
        try simp only [Act.put, List.setIfInBounds_toArray, List.set_cons_zero, List.set_cons_succ]
        refine wpAnyH_take (i := 22) (oi := { dst := some 156, op := Op.fieldAddr 27 (Operand.tmp 15) 0, type := 0, pos := "more.go:66", after := #[{ on := 17, ground := Ground.guard }], guard := some (17, true) }) (v := ?q58v) rfl (by kernel_rfl) (by kernel_rfl) (by kernel_rfl) (fun _ _ _ h => h) (Or.inl ⟨by rfl, ?q58h⟩) hHeld ?q58r
        case q58h => (intro wq hSw; clear hSw; go_simp; try with_reducible rfl)
        try simp only [Act.put, List.setIfInBounds_toArray, List.set_cons_zero, List.set_cons_succ]
        refine wpAnyH_take (i := 23) (oi := { dst := some 157, op := Op.load 23 (Operand.tmp 156), type := 23, pos := "more.go:66", after := #[{ on := 22, ground := Ground.data }, { on := 17, ground := Ground.guard }], guard := some (17, true) }) (v := ?q59v) rfl (by kernel_rfl) (by kernel_rfl) (by kernel_rfl) (fun _ _ _ h => h) (Or.inl ⟨by rfl, ?q59h⟩) hHeld ?q59r
        case q59h => (intro wq hSw; have q0 := hSw.at 0 rfl 0 HP2.out; clear hSw; go_simp; try with_reducible rfl)
        try simp only [Act.put, List.setIfInBounds_toArray, List.set_cons_zero, List.set_cons_succ]
        refine wpAnyH_take (i := 24) (oi := { dst := some 158, op := Op.indexAddr 23 (Operand.tmp 157) (Operand.const (Value.int IntKind.i64 1)), type := 0, pos := "more.go:66", after := #[{ on := 23, ground := Ground.data }, { on := 17, ground := Ground.guard }], guard := some (17, true) }) (v := ?q60v) rfl (by kernel_rfl) (by kernel_rfl) (by kernel_rfl) (fun _ _ _ h => h) (Or.inl ⟨by rfl, ?q60h⟩) hHeld ?q60r
        case q60h => (intro wq hSw; clear hSw; go_simp; try with_reducible rfl)
        try simp only [Act.put, List.setIfInBounds_toArray, List.set_cons_zero, List.set_cons_succ]
        refine wpAnyH_take (i := 25) (oi := { dst := some 159, op := Op.load 9 (Operand.tmp 158), type := 9, pos := "more.go:66", after := #[{ on := 24, ground := Ground.data }, { on := 17, ground := Ground.guard }], guard := some (17, true) }) (v := ?q61v) rfl (by kernel_rfl) (by kernel_rfl) (by kernel_rfl) (fun _ _ _ h => h) (Or.inl ⟨by rfl, ?q61h⟩) hHeld ?q61r
        case q61h => (intro wq hSw; have q0 := HC2.out wq (hSw (.rd R2) (List.mem_of_getElem? (i := 2) rfl)); clear hSw; go_simp; try with_reducible rfl)
        try simp only [Act.put, List.setIfInBounds_toArray, List.set_cons_zero, List.set_cons_succ]
        refine wpAnyH_take (i := 26) (oi := { dst := some 160, op := Op.binOp BinOp.eql 9 (Operand.tmp 155) (Operand.tmp 159) 9, type := 4, pos := "more.go:66", after := #[{ on := 21, ground := Ground.data }, { on := 25, ground := Ground.data }, { on := 17, ground := Ground.guard }], guard := some (17, true) }) (v := .bool true) rfl (by kernel_rfl) (by kernel_rfl) (by kernel_rfl) (fun _ _ _ h => h) (Or.inl ⟨by rfl, ?q62h⟩) hHeld ?q62r
        case q62h => (intro wq hSw; clear hSw; go_simp; try with_reducible rfl)
        try simp only [Act.put, List.setIfInBounds_toArray, List.set_cons_zero, List.set_cons_succ]
        refine wpAnyH_take (i := 27) (oi := { dst := some 161, op := Op.pick (Operand.tmp 151) (Operand.tmp 160) (Operand.const (Value.bool false)), type := 4, pos := "more.go:66", after := #[{ on := 17, ground := Ground.data }, { on := 26, ground := Ground.data }], guard := none }) (v := ?q63v) rfl (by kernel_rfl) (by kernel_rfl) (by kernel_rfl) (fun _ _ _ h => h) (Or.inl ⟨by rfl, ?q63h⟩) hHeld ?q63r
        case q63h => (intro wq hSw; clear hSw; go_simp; try with_reducible rfl)
        try simp only [Act.put, List.setIfInBounds_toArray, List.set_cons_zero, List.set_cons_succ]
        refine wpAnyH_take (i := 28) (oi := { dst := some 162, op := Op.move (Operand.tmp 161), type := 4, pos := "more.go:66", after := #[{ on := 27, ground := Ground.data }, { on := 17, ground := Ground.chain }], guard := none }) (v := ?q64v) rfl (by kernel_rfl) (by kernel_rfl) (by kernel_rfl) (fun _ _ _ h => h) (Or.inl ⟨by rfl, ?q64h⟩) hHeld ?q64r
        case q64h => (intro wq hSw; clear hSw; go_simp; try with_reducible rfl)
        try simp only [Act.put, List.setIfInBounds_toArray, List.set_cons_zero, List.set_cons_succ]
        refine wpAnyH_take (i := 29) (oi := { dst := some 163, op := Op.load 27 (Operand.tmp 19), type := 27, pos := "more.go:66", after := #[{ on := 28, ground := Ground.guard }], guard := some (28, true) }) rfl (by kernel_rfl) (by kernel_rfl) (by kernel_rfl) (fun _ _ _ h => h) (yieldsIf_load_mid (by rfl) 27 (.tmp 19) rfl B43 0 rfl (dvCells (.slice apz z.pages.length cpz) z (.slice auz z.unread.length cuz) (.slice afz z.faults.length cfz)) _ (fun _ h => h.whole 1 rfl) HUD.out rfl (info_dv)) hHeld ?_
        try simp only [Act.put, List.setIfInBounds_toArray, List.set_cons_zero, List.set_cons_succ]
        refine wpAnyH_ready (rs := [30]) (by kernel_rfl) (by simp) ?_
        refine AllReadyH.cons (o := { dst := some 164, op := Op.call { callee := Callee.value (Operand.func 23), args := #[Operand.tmp 163], argTypes := #[27] }, type := 4, pos := "more.go:66", after := #[{ on := 29, ground := Ground.data }, { on := 28, ground := Ground.chain }, { on := 28, ground := Ground.guard }], guard := some (28, true) }) rfl (fun K hK => ?_) (AllReadyH.nil)
        go_simp
        go_wp2_with (go_at_call 23; refine (HVz.out ▸ rvalid_any _ HDvz.out (((HS59.out).drew).reads 4 rfl) HOZ.out.ok.good (fun s hs => by rw [HOZ.out.ok.all s hs]; decide) (by rw [HOZ.out.un]; decide)).mono ?_; rintro e w58 ⟨rfl, hb⟩)
        have HS60 : Hid (Hp w [.cd C, .ob B42 27 (dvCells (.slice ap2 x2.pages.length cp2) x2 (.slice au2 x2.unread.length cu2) (.slice af2 x2.faults.length cf2)), .ob B43 27 (dvCells (.slice apz z.pages.length cpz) z (.slice auz z.unread.length cuz) (.slice afz z.faults.length cfz)), .rd R2, .rd Rz] w58) := ((HS59.out).drew).calls hb
        refine hK.out _ _ (HS60.out.pick [1, 2, 3, 4] rfl) (fun hHeld => ?_)
        clear hK K hb
        try simp only [Act.put, List.setIfInBounds_toArray, List.set_cons_zero, List.set_cons_succ]
        refine wpAnyH_take (i := 31) (oi := { dst := some 165, op := Op.pick (Operand.tmp 162) (Operand.tmp 164) (Operand.const (Value.bool false)), type := 4, pos := "more.go:66", after := #[{ on := 28, ground := Ground.data }, { on := 30, ground := Ground.data }], guard := none }) (v := ?q66v) rfl (by kernel_rfl) (by kernel_rfl) (by kernel_rfl) (fun _ _ _ h => h) (Or.inl ⟨by rfl, ?q66h⟩) hHeld ?q66r
        case q66h => (intro wq hSw; clear hSw; go_simp; try with_reducible rfl)
        try simp only [Act.put, List.setIfInBounds_toArray, List.set_cons_zero, List.set_cons_succ]
        refine wpAnyH_take (i := 32) (oi := { dst := some 6, op := Op.assign (Operand.tmp 165), type := 4, pos := "more.go:66", after := #[{ on := 31, ground := Ground.data }, { on := 30, ground := Ground.chain }, { on := 0, ground := Ground.phase }, { on := 1, ground := Ground.phase }, { on := 2, ground := Ground.phase }, { on := 3, ground := Ground.phase }, { on := 4, ground := Ground.phase }, { on := 5, ground := Ground.phase }, { on := 6, ground := Ground.phase }, { on := 7, ground := Ground.phase }, { on := 8, ground := Ground.phase }, { on := 9, ground := Ground.phase }, { on := 10, ground := Ground.phase }, { on := 11, ground := Ground.phase }, { on := 12, ground := Ground.phase }, { on := 13, ground := Ground.phase }, { on := 14, ground := Ground.phase }, { on := 15, ground := Ground.phase }, { on := 16, ground := Ground.phase }, { on := 17, ground := Ground.phase }, { on := 18, ground := Ground.phase }, { on := 19, ground := Ground.phase }, { on := 20, ground := Ground.phase }, { on := 21, ground := Ground.phase }, { on := 22, ground := Ground.phase }, { on := 23, ground := Ground.phase }, { on := 24, ground := Ground.phase }, { on := 25, ground := Ground.phase }, { on := 26, ground := Ground.phase }, { on := 27, ground := Ground.phase }, { on := 28, ground := Ground.phase }, { on := 29, ground := Ground.phase }, { on := 30, ground := Ground.phase }, { on := 31, ground := Ground.phase }], guard := none }) (v := ?q67v) rfl (by kernel_rfl) (by kernel_rfl) (by kernel_rfl) (fun _ _ _ h => h) (Or.inl ⟨by rfl, ?q67h⟩) hHeld ?q67r
        case q67h => (intro wq hSw; clear hSw; go_simp; try with_reducible rfl)
        try simp only [Act.put, List.setIfInBounds_toArray, List.set_cons_zero, List.set_cons_succ]
        refine wpAnyH_done (by kernel_rfl) ?_ _
        clear hHeld
        go_wp2_with fail
        go_ret
        exact ⟨rfl, HS60.out.old⟩
end Go.Proofs.Ytlmbnofkmmehoaa
