/- the law EntryEncodes: for every input the call returns true -/
import Derived.Test.YtgljhfofikjbdaaOm5
namespace Go.Proofs.Ytgljhfofikjbdaa
open Go.RowKit
set_option maxRecDepth 20000
set_option linter.unusedSimpArgs false
set_option linter.unusedVariables false

set_option maxHeartbeats 16000000 in
theorem encodes_any (x : Option Addr) (len cap : Nat) (zs : List Int) (q : Ent) (w : World) (hr : IsRow .u8 w x len cap zs) (hq : GoodEn q) : Calls Try.prog 3 #[.slice x len cap, .agg (enCells q).toArray] w fun e w' => e = .returned (.bool true) ∧ Below w.heap.size w w' := by
  have HR := Lib.hid hr
  have HGq := Lib.hid hq
  obtain ⟨fsHUE, huHUE⟩ := under_en
  have HUE := Lib.hid huHUE
  clear huHUE
  have HUX : Hid (Try.prog.underlying 34 = some (.slice 28)) := under_ens
  have h1 := (Hp.start w).put 28 (enCells q)
  have HSr : Hid (Hp w [.ob w.heap.size 28 (enCells q)] (w.alloc (.cells (enCells q).toArray 28))) := h1
  clear hr hq h1
  go_enter Try.func3, Try.ntmps3
  go_wp2_with fail
  refine (awake_en _).mono ?_
  rintro e w1 ⟨rfl, hb⟩
  have HS0 : Hid (Hp w [.ob w.heap.size 28 (enCells q)] w1) := HSr.out.calls hb
  clear hb HSr
  have c12 : w1.cell? ⟨w.heap.size, 12, none⟩ = some (.string q.blob) := HS0.out.at 0 rfl 12 rfl
  by_cases hbig : 20000 < (q.blob.size : Int)
  · go_wp2_with fail
    go_ret
    exact ⟨rfl, HS0.out.old⟩
  have HBg := Lib.hid hbig
  go_wp2_with fail
  clear hbig c12
  refine (new_hp 100 (by omega) HS0.out HR.out).mono ?_
  rintro e w2 ⟨rfl, hs⟩
  have HS1 : Hid (Hp w [.ob w.heap.size 28 (enCells q), .cd w1.heap.size] w2) := hs
  clear hs HS0 HR
  generalize w1.heap.size = C at *
  go_wp2_with fail
  refine (entry_any C _ ((HS1.out).codes 1 rfl)).mono ?_
  rintro e w3 ⟨y, rfl, Hy, hb, hc⟩
  have HS2 : Hid (Hp w [.ob (w.heap.size) 28 (enCells q), .cd C] w3) := (HS1.out).draws 1 rfl hb hc
  clear hb hc
  clear HS1
  go_upto_region 5 with (first | ((with_reducible refine wpList_alloc_ob 28 (enCells enNil) ?_ ?_); (exact alloc_en); simp only [Act.put, List.setIfInBounds_toArray, List.set_cons_zero, List.set_cons_succ]) | ((with_reducible refine wpList_store_ob 28 (.tmp 6) (w3.heap.size) (enCells y) (enCells enNil) 28 ?_ ?_ ?_ ?_ ?_ ?_ ?_); (exact rfl); (exact rfl); (exact ((HS2.out).put 28 (enCells enNil)).get 2 rfl); (exact info_en); (exact rfl); (exact (oneCell_en _)); skip))
  have HS3 : Hid (Hp w [.ob (w.heap.size) 28 (enCells q), .cd C, .ob (w3.heap.size) 28 (enCells y)] ((w3.alloc (.cells (enCells enNil).toArray 28)).setRow (w3.heap.size) (enCells y).toArray)) := ((HS2.out).put 28 (enCells enNil)).row 2 rfl (enCells y)
  clear HS2
  generalize ((w3.alloc (.cells (enCells enNil).toArray 28)).setRow (w3.heap.size) (enCells y).toArray) = w4 at *
  generalize w3.heap.size = B1 at *
  refine wp_region_held_drew (S := fun w' => Hold w.heap.size [.ob (w.heap.size) 28 (enCells q), .ob B1 28 (enCells y)] w') (by kernel_rfl) ((HS3.out).drew.pick [0, 2] rfl) (fun hHeld => ?_)
  refine wpAnyH_take (i := 0) (oi := { dst := some 29, op := Op.load 28 (Operand.tmp 3), type := 28, pos := "law.go:25", after := #[], guard := none }) rfl (by kernel_rfl) (by kernel_rfl) (by kernel_rfl) (fun _ _ _ h => h) (yieldsIf_load_mid (by rfl) 28 (.tmp 3) rfl (w.heap.size) 0 rfl (enCells q) _ (fun _ h => h.whole 0 rfl) HUE.out rfl (info_en)) hHeld ?_
  try simp only [Act.put, List.setIfInBounds_toArray, List.set_cons_zero, List.set_cons_succ]
  refine wpAnyH_take (i := 1) (oi := { dst := some 30, op := Op.load 28 (Operand.tmp 6), type := 28, pos := "law.go:25", after := #[], guard := none }) rfl (by kernel_rfl) (by kernel_rfl) (by kernel_rfl) (fun _ _ _ h => h) (yieldsIf_load_mid (by rfl) 28 (.tmp 6) rfl B1 0 rfl (enCells y) _ (fun _ h => h.whole 1 rfl) HUE.out rfl (info_en)) hHeld ?_
  try simp only [Act.put, List.setIfInBounds_toArray, List.set_cons_zero, List.set_cons_succ]
  refine wpAnyH_take (i := 2) (oi := { dst := some 31, op := Op.move (Operand.tmp 5), type := 30, pos := "law.go:25", after := #[], guard := none }) (v := ?q3v) rfl (by kernel_rfl) (by kernel_rfl) (by kernel_rfl) (fun _ _ _ h => h) (Or.inl ⟨by rfl, ?q3h⟩) hHeld ?q3r
  case q3h => (intro wq hSw; clear hSw; go_simp; try with_reducible rfl)
  try simp only [Act.put, List.setIfInBounds_toArray, List.set_cons_zero, List.set_cons_succ]
  refine wpAnyH_take (i := 3) (oi := { dst := some 32, op := Op.load 28 (Operand.tmp 6), type := 28, pos := "law.go:25", after := #[], guard := none }) rfl (by kernel_rfl) (by kernel_rfl) (by kernel_rfl) (fun _ _ _ h => h) (yieldsIf_load_mid (by rfl) 28 (.tmp 6) rfl B1 0 rfl (enCells y) _ (fun _ h => h.whole 1 rfl) HUE.out rfl (info_en)) hHeld ?_
  try simp only [Act.put, List.setIfInBounds_toArray, List.set_cons_zero, List.set_cons_succ]
  refine wpAnyH_take (i := 5) (oi := { dst := some 34, op := Op.move (Operand.tmp 5), type := 30, pos := "law.go:25", after := #[], guard := none }) (v := ?q5v) rfl (by kernel_rfl) (by kernel_rfl) (by kernel_rfl) (fun _ _ _ h => h) (Or.inl ⟨by rfl, ?q5h⟩) hHeld ?q5r
  case q5h => (intro wq hSw; clear hSw; go_simp; try with_reducible rfl)
  try simp only [Act.put, List.setIfInBounds_toArray, List.set_cons_zero, List.set_cons_succ]
  refine wpAnyH_take (i := 6) (oi := { dst := some 35, op := Op.move (Operand.tmp 5), type := 30, pos := "law.go:25", after := #[], guard := none }) (v := ?q6v) rfl (by kernel_rfl) (by kernel_rfl) (by kernel_rfl) (fun _ _ _ h => h) (Or.inl ⟨by rfl, ?q6h⟩) hHeld ?q6r
  case q6h => (intro wq hSw; clear hSw; go_simp; try with_reducible rfl)
  try simp only [Act.put, List.setIfInBounds_toArray, List.set_cons_zero, List.set_cons_succ]
  refine wpAnyH_take (i := 11) (oi := { dst := some 40, op := Op.move (Operand.const (Value.int IntKind.i64 0)), type := 3, pos := "law.go:25", after := #[], guard := none }) (v := ?q7v) rfl (by kernel_rfl) (by kernel_rfl) (by kernel_rfl) (fun _ _ _ h => h) (Or.inl ⟨by rfl, ?q7h⟩) hHeld ?q7r
  case q7h => (intro wq hSw; clear hSw; go_simp; try with_reducible rfl)
  try simp only [Act.put, List.setIfInBounds_toArray, List.set_cons_zero, List.set_cons_succ]
  refine wpAnyH_ready (rs := [4]) (by kernel_rfl) (by simp) ?_
  refine AllReadyH.cons (o := { dst := some 33, op := Op.call { callee := Callee.value (Operand.func 11), args := #[Operand.tmp 31, Operand.tmp 32], argTypes := #[30, 28] }, type := 28, pos := "law.go:25", after := #[{ on := 2, ground := Ground.data }, { on := 3, ground := Ground.data }], guard := none }) rfl (fun K hK => ?_) (AllReadyH.nil)
  go_simp
  go_wp2_with (go_at_call 11; refine (oddEntry_any C y _ (((HS3.out).drew).codes 1 rfl) Hy.out.good).mono ?_; rintro e w5 ⟨o1, rfl, Ho1, hb, hc⟩)
  have HS4 : Hid (Hp w [.ob (w.heap.size) 28 (enCells q), .cd C, .ob B1 28 (enCells y)] w5) := ((HS3.out).drew).draws 1 rfl hb hc
  refine hK.out _ _ (HS4.out.pick [0, 2] rfl) (fun hHeld => ?_)
  clear hK K hb hc
  try simp only [Act.put, List.setIfInBounds_toArray, List.set_cons_zero, List.set_cons_succ]
  refine wpAnyH_ready (rs := [7]) (by kernel_rfl) (by simp) ?_
  refine AllReadyH.cons (o := { dst := some 36, op := Op.call { callee := Callee.value (Operand.func 10), args := #[Operand.tmp 35], argTypes := #[30] }, type := 28, pos := "law.go:25", after := #[{ on := 6, ground := Ground.data }, { on := 4, ground := Ground.chain }], guard := none }) rfl (fun K hK => ?_) (AllReadyH.nil)
  go_simp
  go_wp2_with (go_at_call 10; refine (entry_any C _ ((HS4.out).codes 1 rfl)).mono ?_; rintro e w6 ⟨y2, rfl, Hy2, hb, hc⟩)
  have HS5 : Hid (Hp w [.ob (w.heap.size) 28 (enCells q), .cd C, .ob B1 28 (enCells y)] w6) := (HS4.out).draws 1 rfl hb hc
  refine hK.out _ _ (HS5.out.pick [0, 2] rfl) (fun hHeld => ?_)
  clear hK K hb hc
  try simp only [Act.put, List.setIfInBounds_toArray, List.set_cons_zero, List.set_cons_succ]
  refine wpAnyH_ready (rs := [8]) (by kernel_rfl) (by simp) ?_
  refine AllReadyH.cons (o := { dst := some 37, op := Op.call { callee := Callee.value (Operand.func 11), args := #[Operand.tmp 34, Operand.tmp 36], argTypes := #[30, 28] }, type := 28, pos := "law.go:25", after := #[{ on := 5, ground := Ground.data }, { on := 7, ground := Ground.data }, { on := 7, ground := Ground.chain }], guard := none }) rfl (fun K hK => ?_) (AllReadyH.nil)
  go_simp
  go_wp2_with (go_at_call 11; refine (oddEntry_any C y2 _ ((HS5.out).codes 1 rfl) Hy2.out.good).mono ?_; rintro e w7 ⟨o2, rfl, Ho2, hb, hc⟩)
  have HS6 : Hid (Hp w [.ob (w.heap.size) 28 (enCells q), .cd C, .ob B1 28 (enCells y)] w7) := (HS5.out).draws 1 rfl hb hc
  refine hK.out _ _ (HS6.out.pick [0, 2] rfl) (fun hHeld => ?_)
  clear hK K hb hc
  try simp only [Act.put, List.setIfInBounds_toArray, List.set_cons_zero, List.set_cons_succ]
  refine wpAnyH_ready (rs := [9]) (by kernel_rfl) (by simp) ?_
  refine AllReadyH.cons (o := { dst := some 38, op := Op.buildSlice 34 4 #[(0, Operand.tmp 29), (1, Operand.tmp 30), (2, Operand.tmp 33), (3, Operand.tmp 37)], type := 34, pos := "law.go:25", after := #[{ on := 0, ground := Ground.data }, { on := 1, ground := Ground.data }, { on := 4, ground := Ground.data }, { on := 8, ground := Ground.data }], guard := none }) rfl (fun K hK => ?_) (AllReadyH.nil)
  rw [if_pos (by rfl)]
  refine wp_build_obs rfl elem_en HUX.out [enCells q, enCells y, enCells o1, enCells o2] (List.forall_mem_cons.2 ⟨rfl, (List.forall_mem_cons.2 ⟨rfl, (List.forall_mem_cons.2 ⟨rfl, (List.forall_mem_cons.2 ⟨rfl, (fun _ h => absurd h List.not_mem_nil)⟩)⟩)⟩)⟩) (Nat.succ_pos _) (by simp only [List.length_cons, List.length_nil]; omega) rfl (by simp only [List.map_toArray, List.map_cons, List.map_nil, List.zipIdx_cons, List.zipIdx_nil]; exact rfl) ?_
  have HS7 : Hid (Hp w [.ob (w.heap.size) 28 (enCells q), .cd C, .ob B1 28 (enCells y), .ob (w7.heap.size) 28 (([enCells q, enCells y, enCells o1, enCells o2] : List (List Value)).flatMap id)] (w7.alloc (.cells (([enCells q, enCells y, enCells o1, enCells o2] : List (List Value)).flatMap id).toArray 28))) := (HS6.out).put 28 (([enCells q, enCells y, enCells o1, enCells o2] : List (List Value)).flatMap id)
  refine hK.out _ _ (HS7.out.pick [0, 2] rfl) (fun hHeld => ?_)
  clear hK K
  generalize (w7.alloc (.cells (([enCells q, enCells y, enCells o1, enCells o2] : List (List Value)).flatMap id).toArray 28)) = w8 at *
  generalize w7.heap.size = B2 at *
  try simp only [Act.put, List.setIfInBounds_toArray, List.set_cons_zero, List.set_cons_succ]
  refine wpAnyH_take (i := 10) (oi := { dst := some 39, op := Op.call { callee := Callee.builtin Builtin.len, args := #[Operand.tmp 38], argTypes := #[34] }, type := 3, pos := "law.go:25", after := #[{ on := 9, ground := Ground.data }], guard := none }) (v := ?q8v) rfl (by kernel_rfl) (by kernel_rfl) (by kernel_rfl) (fun _ _ _ h => h) (Or.inl ⟨by rfl, ?q8h⟩) hHeld ?q8r
  case q8h => (intro wq hSw; clear hSw; go_simp; try with_reducible rfl)
  try simp only [Act.put, List.setIfInBounds_toArray, List.set_cons_zero, List.set_cons_succ]
  refine wpAnyH_done (by kernel_rfl) ?_ _
  have HZg : Hid (∀ u ∈ ([q, y, o1, o2] : List Ent), GoodEn u) := by
    intro u hu
    simp only [List.mem_cons, List.not_mem_nil, or_false] at hu
    rcases hu with rfl | rfl | rfl | rfl
    · exact HGq.out
    · exact Hy.out.good
    · exact Ho1.out
    · exact Ho2.out
  have HSd : Hid (Hp w [.ob (w.heap.size) 28 (enCells q), .cd C, .ob B1 28 (enCells y), .ob B2 28 ((([q, y, o1, o2] : List Ent).map enCells).flatMap id)] w8) := HS7.out
  clear HS7
  have HLz : Hid (([q, y, o1, o2] : List Ent).length = 4) := rfl
  generalize ([q, y, o1, o2] : List Ent) = us at *
  have HS8 : Hid (Hp w [.ob B2 28 ((us.map enCells).flatMap id)] w8) := HSd.out.pull [3] rfl (pull_nd HSd.out.nd [3] rfl (by decide))
  clear HSd
  clear hHeld
  go_wp2_with fail
  go_loopw [40] (fun i wr => ∃ j : Nat, j ≤ 4 ∧ i = .int .i64 j ∧ Hp w [.ob B2 28 ((us.map enCells).flatMap id)] wr) (fun i _ => 4 - (intOf i).toNat)
  case atStart => exact ⟨0, by omega, rfl, HS8.out⟩
  case round =>
    obtain ⟨j, hj, rfl, hs⟩ := hrel
    clear HS8
    by_cases hlt : j < 4
    · have HS20 := Lib.hid hs
      clear hs
      have hjl : j < us.length := by rw [HLz.out]; exact hlt
      obtain ⟨u, hu⟩ : ∃ u, us[j] = u := ⟨_, rfl⟩
      have HU1 : Hid ((us.map enCells)[j]? = some (enCells u)) := by show _ = _; rw [List.getElem?_map, List.getElem?_eq_getElem hjl, hu]; rfl
      have HUl : Hid (∀ y ∈ us.map enCells, y.length = 13) := by
        intro y hy
        obtain ⟨v, _, rfl⟩ := List.mem_map.1 hy
        rfl
      have HUg : Hid (GoodEn u) := HZg.out u (by rw [← hu]; exact List.getElem_mem hjl)
      have hj4 : (j : Int) < 4 := by omega
      clear hu hjl
      rcases hE : encE u with ⟨T, jn⟩
      have HEp := Lib.hid (fun W => enc_at hE HUg.out W)
      have HEr := Lib.hid (fun W => renc_at hE HUg.out W)
      clear hE
      have HVp := Lib.hid (fun W => valid_en u W HUg.out)
      have HVr := Lib.hid (fun W => rvalid_en u W HUg.out)
      have HCp := Lib.hid (fun W => changes_any u W)
      have HCr := Lib.hid (fun W => rchanges_any u W)
      generalize entOkB u = vb at *
      generalize changesB u = vc at *
      have hjn : (jn != jn) = false := by simp
      have hvb : (vb != vb) = false := by simp
      have hvc : (vc != vc) = false := by simp
      have hTT := neq_str T
      go_upto_region 8 with (first | ((with_reducible refine wpList_load_at 28 (.tmp 42) B2 ((j * 13)) (enCells u) HUE.out ?_ ?_ ?_ ?_ ?_); (exact rfl); (exact (HS20.out).mid 0 rfl (j * 13) (enCells u) (flat_mid (us.map enCells) HUl.out j _ HU1.out)); (exact rfl); (exact info_en); simp only [Act.put, List.setIfInBounds_toArray, List.set_cons_zero, List.set_cons_succ]) | ((with_reducible refine wpList_alloc_ob 28 (enCells enNil) ?_ ?_); (exact alloc_en); simp only [Act.put, List.setIfInBounds_toArray, List.set_cons_zero, List.set_cons_succ]) | ((with_reducible refine wpList_store_ob 28 (.tmp 8) (wr.heap.size) (enCells u) (enCells enNil) 28 ?_ ?_ ?_ ?_ ?_ ?_ ?_); (exact rfl); (exact rfl); (exact ((HS20.out).put 28 (enCells enNil)).get 1 rfl); (exact info_en); (exact rfl); (exact (oneCell_en _)); skip))
      have HS9 : Hid (Hp w [.ob B2 28 ((us.map enCells).flatMap id), .ob (wr.heap.size) 28 (enCells u)] ((wr.alloc (.cells (enCells enNil).toArray 28)).setRow (wr.heap.size) (enCells u).toArray)) := ((HS20.out).put 28 (enCells enNil)).row 1 rfl (enCells u)
      clear HS20
      generalize ((wr.alloc (.cells (enCells enNil).toArray 28)).setRow (wr.heap.size) (enCells u).toArray) = w9 at *
      generalize wr.heap.size = B3 at *
      go_wp2_with (first | ((with_reducible refine wpList_load_ob 28 (.tmp 8) B3 (enCells u) 28 HUE.out ?_ ?_ ?_ ?_ ?_); (exact rfl); (exact (HS9.out).get 1 rfl); (exact rfl); (exact info_en); simp only [Act.put, List.setIfInBounds_toArray, List.set_cons_zero, List.set_cons_succ]))
      refine (HEp.out _).mono ?_
      rintro e w10 ⟨rfl, hb⟩
      have HS10 : Hid (Hp w [.ob B2 28 ((us.map enCells).flatMap id), .ob B3 28 (enCells u)] w10) := (HS9.out).calls hb
      clear hb
      clear HS9
      go_wp2_with (first | ((with_reducible refine wpList_load_ob 28 (.tmp 8) B3 (enCells u) 28 HUE.out ?_ ?_ ?_ ?_ ?_); (exact rfl); (exact (HS10.out).get 1 rfl); (exact rfl); (exact info_en); simp only [Act.put, List.setIfInBounds_toArray, List.set_cons_zero, List.set_cons_succ]))
      refine (HEr.out _).mono ?_
      rintro e w11 ⟨rfl, hb⟩
      have HS11 : Hid (Hp w [.ob B2 28 ((us.map enCells).flatMap id), .ob B3 28 (enCells u)] w11) := (HS10.out).calls hb
      clear hb
      clear HS10
      go_upto_region 10 with (fail)
      clear hj4
      refine wp_region_held_drew (S := fun w' => Hold w.heap.size [.ob B3 28 (enCells u)] w') (by kernel_rfl) ((HS11.out).drew.pick [1] rfl) (fun hHeld => ?_)
      refine wpAnyH_take (i := 0) (oi := { dst := some 54, op := Op.move (Operand.tmp 9), type := 9, pos := "law.go:28", after := #[], guard := none }) (v := ?q9v) rfl (by kernel_rfl) (by kernel_rfl) (by kernel_rfl) (fun _ _ _ h => h) (Or.inl ⟨by rfl, ?q9h⟩) hHeld ?q9r
      case q9h => (intro wq hSw; clear hSw; go_simp; try with_reducible rfl)
      try simp only [Act.put, List.setIfInBounds_toArray, List.set_cons_zero, List.set_cons_succ]
      refine wpAnyH_take (i := 1) (oi := { dst := some 55, op := Op.move (Operand.tmp 11), type := 9, pos := "law.go:28", after := #[], guard := none }) (v := ?q10v) rfl (by kernel_rfl) (by kernel_rfl) (by kernel_rfl) (fun _ _ _ h => h) (Or.inl ⟨by rfl, ?q10h⟩) hHeld ?q10r
      case q10h => (intro wq hSw; clear hSw; go_simp; try with_reducible rfl)
      try simp only [Act.put, List.setIfInBounds_toArray, List.set_cons_zero, List.set_cons_succ]
      refine wpAnyH_take (i := 2) (oi := { dst := some 56, op := Op.binOp BinOp.neq 9 (Operand.tmp 54) (Operand.tmp 55) 9, type := 4, pos := "law.go:28", after := #[{ on := 0, ground := Ground.data }, { on := 1, ground := Ground.data }], guard := none }) (v := .bool false) rfl (by kernel_rfl) (by kernel_rfl) (by kernel_rfl) (fun _ _ _ h => h) (Or.inl ⟨by rfl, ?q11h⟩) hHeld ?q11r
      case q11h => (intro wq hSw; clear hSw; go_simp; try with_reducible rfl)
      try simp only [Act.put, List.setIfInBounds_toArray, List.set_cons_zero, List.set_cons_succ]
      refine wpAnyH_take (i := 3) (oi := { dst := some 57, op := Op.move (Operand.tmp 56), type := 4, pos := "law.go:28", after := #[{ on := 2, ground := Ground.data }], guard := none }) (v := ?q12v) rfl (by kernel_rfl) (by kernel_rfl) (by kernel_rfl) (fun _ _ _ h => h) (Or.inl ⟨by rfl, ?q12h⟩) hHeld ?q12r
      case q12h => (intro wq hSw; clear hSw; go_simp; try with_reducible rfl)
      try simp only [Act.put, List.setIfInBounds_toArray, List.set_cons_zero, List.set_cons_succ]
      refine wpAnyH_take (i := 4) (oi := { dst := some 58, op := Op.move (Operand.tmp 10), type := 35, pos := "law.go:28", after := #[{ on := 3, ground := Ground.guard }], guard := some (3, false) }) (v := ?q13v) rfl (by kernel_rfl) (by kernel_rfl) (by kernel_rfl) (fun _ _ _ h => h) (Or.inl ⟨by rfl, ?q13h⟩) hHeld ?q13r
      case q13h => (intro wq hSw; clear hSw; go_simp; try with_reducible rfl)
      try simp only [Act.put, List.setIfInBounds_toArray, List.set_cons_zero, List.set_cons_succ]
      refine wpAnyH_take (i := 5) (oi := { dst := some 59, op := Op.move (Operand.tmp 12), type := 35, pos := "law.go:28", after := #[{ on := 3, ground := Ground.guard }], guard := some (3, false) }) (v := ?q14v) rfl (by kernel_rfl) (by kernel_rfl) (by kernel_rfl) (fun _ _ _ h => h) (Or.inl ⟨by rfl, ?q14h⟩) hHeld ?q14r
      case q14h => (intro wq hSw; clear hSw; go_simp; try with_reducible rfl)
      try simp only [Act.put, List.setIfInBounds_toArray, List.set_cons_zero, List.set_cons_succ]
      refine wpAnyH_take (i := 6) (oi := { dst := some 60, op := Op.binOp BinOp.neq 35 (Operand.tmp 58) (Operand.tmp 59) 35, type := 4, pos := "law.go:28", after := #[{ on := 4, ground := Ground.data }, { on := 5, ground := Ground.data }, { on := 3, ground := Ground.guard }], guard := some (3, false) }) (v := .bool false) rfl (by kernel_rfl) (by kernel_rfl) (by kernel_rfl) (fun _ _ _ h => h) (Or.inl ⟨by rfl, ?q15h⟩) hHeld ?q15r
      case q15h => (intro wq hSw; clear hSw; go_simp; try with_reducible rfl)
      try simp only [Act.put, List.setIfInBounds_toArray, List.set_cons_zero, List.set_cons_succ]
      refine wpAnyH_take (i := 7) (oi := { dst := some 61, op := Op.pick (Operand.tmp 57) (Operand.const (Value.bool true)) (Operand.tmp 60), type := 4, pos := "law.go:28", after := #[{ on := 3, ground := Ground.data }, { on := 6, ground := Ground.data }], guard := none }) (v := .bool false) rfl (by kernel_rfl) (by kernel_rfl) (by kernel_rfl) (fun _ _ _ h => h) (Or.inl ⟨by rfl, ?q16h⟩) hHeld ?q16r
      case q16h => (intro wq hSw; clear hSw; go_simp; try with_reducible rfl)
      try simp only [Act.put, List.setIfInBounds_toArray, List.set_cons_zero, List.set_cons_succ]
      refine wpAnyH_take (i := 8) (oi := { dst := some 62, op := Op.move (Operand.tmp 61), type := 4, pos := "law.go:28", after := #[{ on := 7, ground := Ground.data }, { on := 3, ground := Ground.chain }], guard := none }) (v := ?q17v) rfl (by kernel_rfl) (by kernel_rfl) (by kernel_rfl) (fun _ _ _ h => h) (Or.inl ⟨by rfl, ?q17h⟩) hHeld ?q17r
      case q17h => (intro wq hSw; clear hSw; go_simp; try with_reducible rfl)
      try simp only [Act.put, List.setIfInBounds_toArray, List.set_cons_zero, List.set_cons_succ]
      refine wpAnyH_take (i := 9) (oi := { dst := some 63, op := Op.load 28 (Operand.tmp 8), type := 28, pos := "law.go:28", after := #[{ on := 8, ground := Ground.guard }], guard := some (8, false) }) rfl (by kernel_rfl) (by kernel_rfl) (by kernel_rfl) (fun _ _ _ h => h) (yieldsIf_load_mid (by rfl) 28 (.tmp 8) rfl B3 0 rfl (enCells u) _ (fun _ h => h.whole 0 rfl) HUE.out rfl (info_en)) hHeld ?_
      try simp only [Act.put, List.setIfInBounds_toArray, List.set_cons_zero, List.set_cons_succ]
      refine wpAnyH_take (i := 11) (oi := { dst := some 65, op := Op.load 28 (Operand.tmp 8), type := 28, pos := "law.go:28", after := #[{ on := 8, ground := Ground.guard }], guard := some (8, false) }) rfl (by kernel_rfl) (by kernel_rfl) (by kernel_rfl) (fun _ _ _ h => h) (yieldsIf_load_mid (by rfl) 28 (.tmp 8) rfl B3 0 rfl (enCells u) _ (fun _ h => h.whole 0 rfl) HUE.out rfl (info_en)) hHeld ?_
      try simp only [Act.put, List.setIfInBounds_toArray, List.set_cons_zero, List.set_cons_succ]
      refine wpAnyH_ready (rs := [10]) (by kernel_rfl) (by simp) ?_
      refine AllReadyH.cons (o := { dst := some 64, op := Op.call { callee := Callee.value (Operand.func 14), args := #[Operand.tmp 63], argTypes := #[28] }, type := 4, pos := "law.go:28", after := #[{ on := 9, ground := Ground.data }, { on := 8, ground := Ground.chain }, { on := 8, ground := Ground.guard }], guard := some (8, false) }) rfl (fun K hK => ?_) (AllReadyH.nil)
      go_simp
      go_wp2_with (go_at_call 14; refine (HVp.out _).mono ?_; rintro e w12 ⟨rfl, hb⟩)
      have HS12 : Hid (Hp w [.ob B2 28 ((us.map enCells).flatMap id), .ob B3 28 (enCells u)] w12) := ((HS11.out).drew).calls hb
      refine hK.out _ _ (HS12.out.pick [1] rfl) (fun hHeld => ?_)
      clear hK K hb
      try simp only [Act.put, List.setIfInBounds_toArray, List.set_cons_zero, List.set_cons_succ]
      refine wpAnyH_ready (rs := [12]) (by kernel_rfl) (by simp) ?_
      refine AllReadyH.cons (o := { dst := some 66, op := Op.call { callee := Callee.value (Operand.func 15), args := #[Operand.tmp 65], argTypes := #[28] }, type := 4, pos := "law.go:28", after := #[{ on := 11, ground := Ground.data }, { on := 10, ground := Ground.chain }, { on := 8, ground := Ground.guard }], guard := some (8, false) }) rfl (fun K hK => ?_) (AllReadyH.nil)
      go_simp
      go_wp2_with (go_at_call 15; refine (HVr.out _).mono ?_; rintro e w13 ⟨rfl, hb⟩)
      have HS13 : Hid (Hp w [.ob B2 28 ((us.map enCells).flatMap id), .ob B3 28 (enCells u)] w13) := (HS12.out).calls hb
      refine hK.out _ _ (HS13.out.pick [1] rfl) (fun hHeld => ?_)
      clear hK K hb
      try simp only [Act.put, List.setIfInBounds_toArray, List.set_cons_zero, List.set_cons_succ]
      refine wpAnyH_take (i := 13) (oi := { dst := some 67, op := Op.binOp BinOp.neq 4 (Operand.tmp 64) (Operand.tmp 66) 4, type := 4, pos := "law.go:28", after := #[{ on := 10, ground := Ground.data }, { on := 12, ground := Ground.data }, { on := 8, ground := Ground.guard }], guard := some (8, false) }) (v := .bool false) rfl (by kernel_rfl) (by kernel_rfl) (by kernel_rfl) (fun _ _ _ h => h) (Or.inl ⟨by rfl, ?q20h⟩) hHeld ?q20r
      case q20h => (intro wq hSw; clear hSw; go_simp; try with_reducible rfl)
      try simp only [Act.put, List.setIfInBounds_toArray, List.set_cons_zero, List.set_cons_succ]
      refine wpAnyH_take (i := 14) (oi := { dst := some 68, op := Op.pick (Operand.tmp 62) (Operand.const (Value.bool true)) (Operand.tmp 67), type := 4, pos := "law.go:28", after := #[{ on := 8, ground := Ground.data }, { on := 13, ground := Ground.data }], guard := none }) (v := .bool false) rfl (by kernel_rfl) (by kernel_rfl) (by kernel_rfl) (fun _ _ _ h => h) (Or.inl ⟨by rfl, ?q21h⟩) hHeld ?q21r
      case q21h => (intro wq hSw; clear hSw; go_simp; try with_reducible rfl)
      try simp only [Act.put, List.setIfInBounds_toArray, List.set_cons_zero, List.set_cons_succ]
      refine wpAnyH_take (i := 15) (oi := { dst := some 69, op := Op.move (Operand.tmp 68), type := 4, pos := "law.go:28", after := #[{ on := 14, ground := Ground.data }, { on := 12, ground := Ground.chain }], guard := none }) (v := ?q22v) rfl (by kernel_rfl) (by kernel_rfl) (by kernel_rfl) (fun _ _ _ h => h) (Or.inl ⟨by rfl, ?q22h⟩) hHeld ?q22r
      case q22h => (intro wq hSw; clear hSw; go_simp; try with_reducible rfl)
      try simp only [Act.put, List.setIfInBounds_toArray, List.set_cons_zero, List.set_cons_succ]
      refine wpAnyH_take (i := 16) (oi := { dst := some 70, op := Op.load 28 (Operand.tmp 8), type := 28, pos := "law.go:28", after := #[{ on := 15, ground := Ground.guard }], guard := some (15, false) }) rfl (by kernel_rfl) (by kernel_rfl) (by kernel_rfl) (fun _ _ _ h => h) (yieldsIf_load_mid (by rfl) 28 (.tmp 8) rfl B3 0 rfl (enCells u) _ (fun _ h => h.whole 0 rfl) HUE.out rfl (info_en)) hHeld ?_
      try simp only [Act.put, List.setIfInBounds_toArray, List.set_cons_zero, List.set_cons_succ]
      refine wpAnyH_take (i := 18) (oi := { dst := some 72, op := Op.load 28 (Operand.tmp 8), type := 28, pos := "law.go:28", after := #[{ on := 15, ground := Ground.guard }], guard := some (15, false) }) rfl (by kernel_rfl) (by kernel_rfl) (by kernel_rfl) (fun _ _ _ h => h) (yieldsIf_load_mid (by rfl) 28 (.tmp 8) rfl B3 0 rfl (enCells u) _ (fun _ h => h.whole 0 rfl) HUE.out rfl (info_en)) hHeld ?_
      try simp only [Act.put, List.setIfInBounds_toArray, List.set_cons_zero, List.set_cons_succ]
      refine wpAnyH_ready (rs := [17]) (by kernel_rfl) (by simp) ?_
      refine AllReadyH.cons (o := { dst := some 71, op := Op.call { callee := Callee.value (Operand.func 16), args := #[Operand.tmp 70], argTypes := #[28] }, type := 4, pos := "law.go:28", after := #[{ on := 16, ground := Ground.data }, { on := 15, ground := Ground.chain }, { on := 15, ground := Ground.guard }], guard := some (15, false) }) rfl (fun K hK => ?_) (AllReadyH.nil)
      go_simp
      go_wp2_with (go_at_call 16; refine (HCp.out _).mono ?_; rintro e w14 ⟨rfl, hb⟩)
      have HS14 : Hid (Hp w [.ob B2 28 ((us.map enCells).flatMap id), .ob B3 28 (enCells u)] w14) := (HS13.out).calls hb
      refine hK.out _ _ (HS14.out.pick [1] rfl) (fun hHeld => ?_)
      clear hK K hb
      try simp only [Act.put, List.setIfInBounds_toArray, List.set_cons_zero, List.set_cons_succ]
      refine wpAnyH_ready (rs := [19]) (by kernel_rfl) (by simp) ?_
      refine AllReadyH.cons (o := { dst := some 73, op := Op.call { callee := Callee.value (Operand.func 17), args := #[Operand.tmp 72], argTypes := #[28] }, type := 4, pos := "law.go:28", after := #[{ on := 18, ground := Ground.data }, { on := 17, ground := Ground.chain }, { on := 15, ground := Ground.guard }], guard := some (15, false) }) rfl (fun K hK => ?_) (AllReadyH.nil)
      go_simp
      go_wp2_with (go_at_call 17; refine (HCr.out _).mono ?_; rintro e w15 ⟨rfl, hb⟩)
      have HS15 : Hid (Hp w [.ob B2 28 ((us.map enCells).flatMap id), .ob B3 28 (enCells u)] w15) := (HS14.out).calls hb
      refine hK.out _ _ (HS15.out.pick [1] rfl) (fun hHeld => ?_)
      clear hK K hb
      try simp only [Act.put, List.setIfInBounds_toArray, List.set_cons_zero, List.set_cons_succ]
      refine wpAnyH_take (i := 20) (oi := { dst := some 74, op := Op.binOp BinOp.neq 4 (Operand.tmp 71) (Operand.tmp 73) 4, type := 4, pos := "law.go:28", after := #[{ on := 17, ground := Ground.data }, { on := 19, ground := Ground.data }, { on := 15, ground := Ground.guard }], guard := some (15, false) }) (v := .bool false) rfl (by kernel_rfl) (by kernel_rfl) (by kernel_rfl) (fun _ _ _ h => h) (Or.inl ⟨by rfl, ?q25h⟩) hHeld ?q25r
      case q25h => (intro wq hSw; clear hSw; go_simp; try with_reducible rfl)
      try simp only [Act.put, List.setIfInBounds_toArray, List.set_cons_zero, List.set_cons_succ]
      refine wpAnyH_take (i := 21) (oi := { dst := some 75, op := Op.pick (Operand.tmp 69) (Operand.const (Value.bool true)) (Operand.tmp 74), type := 4, pos := "law.go:28", after := #[{ on := 15, ground := Ground.data }, { on := 20, ground := Ground.data }], guard := none }) (v := .bool false) rfl (by kernel_rfl) (by kernel_rfl) (by kernel_rfl) (fun _ _ _ h => h) (Or.inl ⟨by rfl, ?q26h⟩) hHeld ?q26r
      case q26h => (intro wq hSw; clear hSw; go_simp; try with_reducible rfl)
      try simp only [Act.put, List.setIfInBounds_toArray, List.set_cons_zero, List.set_cons_succ]
      refine wpAnyH_done (by kernel_rfl) ?_ _
      clear hHeld
      go_wp2_with fail
      go_roundw
      have HS16 : Hid (Hp w [.ob B2 28 ((us.map enCells).flatMap id)] w15) := HS15.out.pull [0] rfl (pull_nd HS15.out.nd [0] rfl (by decide))
      clear HS15
      case rel => exact ⟨j + 1, by omega, by go_num, HS16.out⟩
      case measure => simp [intOf]; omega
    · go_wp2_with fail
      go_ret
      exact ⟨rfl, hs.old⟩
end Go.Proofs.Ytgljhfofikjbdaa
