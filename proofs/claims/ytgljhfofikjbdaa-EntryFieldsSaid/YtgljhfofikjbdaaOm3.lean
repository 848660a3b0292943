/- the walk of the reference's shape of an entry, of any kind -/
import Derived.Test.YtgljhfofikjbdaaOm2
namespace Go.Proofs.Ytgljhfofikjbdaa
open Go.RowKit
set_option maxRecDepth 20000
set_option linter.unusedSimpArgs false
set_option linter.unusedVariables false

set_option maxHeartbeats 8000000 in
theorem shape_k3 (l t p g r : Int) (c : Chg) (s : ByteArray) (w : World) (hc : GoodCh c) (hs : s.size ≤ maxLen) : Calls Try.prog 32 #[.agg (enCells ⟨l, 3, t, p, g, r, c, s⟩).toArray] w (ShPost ⟨l, 3, t, p, g, r, c, s⟩ w) := by
  have HC := Lib.hid hc
  have HBl := Lib.hid hs
  obtain ⟨fsHUE, huHUE⟩ := under_en
  have HUE := Lib.hid huHUE
  clear huHUE
  obtain ⟨fsHUC, huHUC⟩ := under_ch
  have HUC := Lib.hid huHUC
  clear huHUC
  have h1 := ((Hp.start w).put 28 (enCells ⟨l, 3, t, p, g, r, c, s⟩)).put 28 (enCells enNil)
  simp only [List.nil_append, List.cons_append, World.size_alloc] at h1
  have HS0 : Hid (Hp w [.ob w.heap.size 28 (enCells ⟨l, 3, t, p, g, r, c, s⟩), .ob (w.heap.size + 1) 28 (enCells enNil)] ((w.alloc (.cells (enCells ⟨l, 3, t, p, g, r, c, s⟩).toArray 28)).alloc (.cells #[.int .i64 0, .int .i64 0, .int .i64 0, .int .i64 0, .int .i64 0, .int .i64 0, .int .i64 0, .int .i64 0, .bool false, .string ⟨#[]⟩, .bool false, .string ⟨#[]⟩, .string ⟨#[]⟩] 28))) := h1
  clear h1 hc hs
  go_enter Try.func32, Try.ntmps32
  go_upto_region 1 with (fail)
  have HS2 : Hid (Hp w [.ob (w.heap.size) 28 (enCells ⟨l, 3, t, p, g, r, c, s⟩), .ob ((w.heap.size + 1)) 28 (enCells enNil)] ((w.alloc (.cells (enCells ⟨l, 3, t, p, g, r, c, s⟩).toArray 28)).alloc (.cells #[.int .i64 0, .int .i64 0, .int .i64 0, .int .i64 0, .int .i64 0, .int .i64 0, .int .i64 0, .int .i64 0, .bool false, .string ⟨#[]⟩, .bool false, .string ⟨#[]⟩, .string ⟨#[]⟩] 28))) := HS0.out
  clear HS0
  generalize (w.alloc (.cells (enCells ⟨l, 3, t, p, g, r, c, s⟩).toArray 28)).alloc (.cells #[.int .i64 0, .int .i64 0, .int .i64 0, .int .i64 0, .int .i64 0, .int .i64 0, .int .i64 0, .int .i64 0, .bool false, .string ⟨#[]⟩, .bool false, .string ⟨#[]⟩, .string ⟨#[]⟩] 28) = w3 at *
  generalize (w.heap.size + 1) = B1 at *
  have c0 : w3.cell? ⟨(w.heap.size), 0, none⟩ = some (.int .i64 l) := (HS2.out).at 0 rfl 0 rfl
  have c1 : w3.cell? ⟨(w.heap.size), 1, none⟩ = some (.int .i64 3) := (HS2.out).at 0 rfl 1 rfl
  go_upto_region 2 with (first | ((with_reducible refine wpList_build_v (d := some 10) 28 (.agg (enCells ⟨l, 3, 0, 0, 0, 0, chNil, emptyS⟩).toArray) ?_ ?_); (intro W; simp only [List.map_toArray, List.map_cons, List.map_nil]; exact build_two l 3 W); simp only [Act.put, List.setIfInBounds_toArray, List.set_cons_zero, List.set_cons_succ]) | ((with_reducible refine wpList_alloc_ob 28 (enCells enNil) ?_ ?_); (exact alloc_en); simp only [Act.put, List.setIfInBounds_toArray, List.set_cons_zero, List.set_cons_succ]) | ((with_reducible refine wpList_store_ob 28 (.tmp 4) (w3.heap.size) (enCells ⟨l, 3, 0, 0, 0, 0, chNil, emptyS⟩) (enCells enNil) 28 ?_ ?_ ?_ ?_ ?_ ?_ ?_); (exact rfl); (exact rfl); (exact ((HS2.out).put 28 (enCells enNil)).get 2 rfl); (exact info_en); (exact rfl); (exact (oneCell_en _)); skip))
  have HS3 : Hid (Hp w [.ob (w.heap.size) 28 (enCells ⟨l, 3, t, p, g, r, c, s⟩), .ob B1 28 (enCells enNil), .ob (w3.heap.size) 28 (enCells ⟨l, 3, 0, 0, 0, 0, chNil, emptyS⟩)] ((w3.alloc (.cells (enCells enNil).toArray 28)).setRow (w3.heap.size) (enCells ⟨l, 3, 0, 0, 0, 0, chNil, emptyS⟩).toArray)) := ((HS2.out).put 28 (enCells enNil)).row 2 rfl (enCells ⟨l, 3, 0, 0, 0, 0, chNil, emptyS⟩)
  clear HS2
  generalize ((w3.alloc (.cells (enCells enNil).toArray 28)).setRow (w3.heap.size) (enCells ⟨l, 3, 0, 0, 0, 0, chNil, emptyS⟩).toArray) = w4 at *
  generalize w3.heap.size = B2 at *
  clear c0 c1
  have c1 : w4.cell? ⟨(w.heap.size), 1, none⟩ = some (.int .i64 3) := (HS3.out).at 0 rfl 1 rfl
  go_upto_region 14 with (fail)
  clear c1
  refine wp_region_held_drew (S := fun w' => Hold w.heap.size [.ob (w.heap.size) 28 (enCells ⟨l, 3, t, p, g, r, c, s⟩)] w') (by kernel_rfl) ((HS3.out).drew.pick [0] rfl) (fun hHeld => ?_)
  refine wpAnyH_take (i := 0) (oi := { dst := some 71, op := Op.fieldAddr 28 (Operand.tmp 1) 2, type := 0, pos := "ref.go:26", after := #[], guard := none }) (v := ?q1v) rfl (by kernel_rfl) (by kernel_rfl) (by kernel_rfl) (fun _ _ _ h => h) (Or.inl ⟨by rfl, ?q1h⟩) hHeld ?q1r
  case q1h => (intro wq hSw; clear hSw; go_simp; try with_reducible rfl)
  try simp only [Act.put, List.setIfInBounds_toArray, List.set_cons_zero, List.set_cons_succ]
  refine wpAnyH_take (i := 1) (oi := { dst := some 72, op := Op.load 3 (Operand.tmp 71), type := 3, pos := "ref.go:26", after := #[{ on := 0, ground := Ground.data }], guard := none }) (v := .int .i64 t) rfl (by kernel_rfl) (by kernel_rfl) (by kernel_rfl) (fun _ _ _ h => h) (Or.inl ⟨by rfl, ?q2h⟩) hHeld ?q2r
  case q2h => (intro wq hSw; have lq := hSw.at 0 rfl 2 (v := .int .i64 t) rfl; clear hSw; go_simp; try with_reducible rfl)
  try simp only [Act.put, List.setIfInBounds_toArray, List.set_cons_zero, List.set_cons_succ]
  refine wpAnyH_take (i := 2) (oi := { dst := some 73, op := Op.fieldAddr 28 (Operand.tmp 1) 3, type := 0, pos := "ref.go:26", after := #[{ on := 5, ground := Ground.gcOnly Departure.lateStores }], guard := none }) (v := ?q3v) rfl (by kernel_rfl) (by kernel_rfl) (by kernel_rfl) (fun _ _ _ h => h) (Or.inl ⟨by rfl, ?q3h⟩) hHeld ?q3r
  case q3h => (intro wq hSw; clear hSw; go_simp; try with_reducible rfl)
  try simp only [Act.put, List.setIfInBounds_toArray, List.set_cons_zero, List.set_cons_succ]
  refine wpAnyH_take (i := 3) (oi := { dst := some 74, op := Op.load 3 (Operand.tmp 73), type := 3, pos := "ref.go:26", after := #[{ on := 2, ground := Ground.data }, { on := 5, ground := Ground.gcOnly Departure.lateStores }], guard := none }) (v := .int .i64 p) rfl (by kernel_rfl) (by kernel_rfl) (by kernel_rfl) (fun _ _ _ h => h) (Or.inl ⟨by rfl, ?q4h⟩) hHeld ?q4r
  case q4h => (intro wq hSw; have lq := hSw.at 0 rfl 3 (v := .int .i64 p) rfl; clear hSw; go_simp; try with_reducible rfl)
  try simp only [Act.put, List.setIfInBounds_toArray, List.set_cons_zero, List.set_cons_succ]
  refine wpAnyH_take (i := 4) (oi := { dst := some 75, op := Op.fieldAddr 28 (Operand.tmp 4) 2, type := 0, pos := "ref.go:26", after := #[{ on := 0, ground := Ground.phase }, { on := 1, ground := Ground.phase }, { on := 2, ground := Ground.textOnly Departure.lateStores }, { on := 3, ground := Ground.textOnly Departure.lateStores }], guard := none }) (v := ?q5v) rfl (by kernel_rfl) (by kernel_rfl) (by kernel_rfl) (fun _ _ _ h => h) (Or.inl ⟨by rfl, ?q5h⟩) hHeld ?q5r
  case q5h => (intro wq hSw; clear hSw; go_simp; try with_reducible rfl)
  try simp only [Act.put, List.setIfInBounds_toArray, List.set_cons_zero, List.set_cons_succ]
  refine wpAnyH_ready (rs := [5]) (by kernel_rfl) (by simp) ?_
  refine AllReadyH.cons (o := { dst := none, op := Op.store 3 (Operand.tmp 75) (Operand.tmp 72), type := 0, pos := "ref.go:26", after := #[{ on := 4, ground := Ground.data }, { on := 1, ground := Ground.data }, { on := 0, ground := Ground.phase }, { on := 1, ground := Ground.phase }, { on := 2, ground := Ground.textOnly Departure.lateStores }, { on := 3, ground := Ground.textOnly Departure.lateStores }], guard := none }) rfl (fun K hK => ?_) (AllReadyH.nil)
  rw [if_pos (by rfl)]
  refine wp_store_fld 3 (.tmp 75) (.tmp 72) B2 2 (.int .i64 t) ([.int .i64 t]) (enCells ⟨l, 3, 0, 0, 0, 0, chNil, emptyS⟩) (enCells ⟨l, 3, t, 0, 0, 0, chNil, emptyS⟩) 28 rfl rfl rfl rfl rfl (((HS3.out).drew).get 2 rfl) (Nat.le_of_ble_eq_true rfl) (info_int1) ((one_int _ _)) rfl ?_
  have HS4 : Hid (Hp w [.ob (w.heap.size) 28 (enCells ⟨l, 3, t, p, g, r, c, s⟩), .ob B1 28 (enCells enNil), .ob B2 28 (enCells ⟨l, 3, t, 0, 0, 0, chNil, emptyS⟩)] (w4.drew.setRow B2 (enCells ⟨l, 3, t, 0, 0, 0, chNil, emptyS⟩).toArray)) := ((HS3.out).drew).row 2 rfl (enCells ⟨l, 3, t, 0, 0, 0, chNil, emptyS⟩)
  refine hK.out _ _ (HS4.out.pick [0] rfl) (fun hHeld => ?_)
  clear hK K
  generalize (w4.drew.setRow B2 (enCells ⟨l, 3, t, 0, 0, 0, chNil, emptyS⟩).toArray) = w5 at *
  try simp only [Act.put, List.setIfInBounds_toArray, List.set_cons_zero, List.set_cons_succ]
  refine wpAnyH_take (i := 6) (oi := { dst := some 76, op := Op.fieldAddr 28 (Operand.tmp 4) 3, type := 0, pos := "ref.go:26", after := #[{ on := 0, ground := Ground.phase }, { on := 1, ground := Ground.phase }, { on := 2, ground := Ground.phase }, { on := 3, ground := Ground.phase }, { on := 4, ground := Ground.phase }, { on := 5, ground := Ground.phase }], guard := none }) (v := ?q6v) rfl (by kernel_rfl) (by kernel_rfl) (by kernel_rfl) (fun _ _ _ h => h) (Or.inl ⟨by rfl, ?q6h⟩) hHeld ?q6r
  case q6h => (intro wq hSw; clear hSw; go_simp; try with_reducible rfl)
  try simp only [Act.put, List.setIfInBounds_toArray, List.set_cons_zero, List.set_cons_succ]
  refine wpAnyH_ready (rs := [7]) (by kernel_rfl) (by simp) ?_
  refine AllReadyH.cons (o := { dst := none, op := Op.store 3 (Operand.tmp 76) (Operand.tmp 74), type := 0, pos := "ref.go:26", after := #[{ on := 6, ground := Ground.data }, { on := 3, ground := Ground.data }, { on := 5, ground := Ground.chain }, { on := 0, ground := Ground.phase }, { on := 1, ground := Ground.phase }, { on := 2, ground := Ground.phase }, { on := 3, ground := Ground.phase }, { on := 4, ground := Ground.phase }, { on := 5, ground := Ground.phase }], guard := none }) rfl (fun K hK => ?_) (AllReadyH.nil)
  rw [if_pos (by rfl)]
  refine wp_store_fld 3 (.tmp 76) (.tmp 74) B2 3 (.int .i64 p) ([.int .i64 p]) (enCells ⟨l, 3, t, 0, 0, 0, chNil, emptyS⟩) (enCells ⟨l, 3, t, p, 0, 0, chNil, emptyS⟩) 28 rfl rfl rfl rfl rfl ((HS4.out).get 2 rfl) (Nat.le_of_ble_eq_true rfl) (info_int1) ((one_int _ _)) rfl ?_
  have HS5 : Hid (Hp w [.ob (w.heap.size) 28 (enCells ⟨l, 3, t, p, g, r, c, s⟩), .ob B1 28 (enCells enNil), .ob B2 28 (enCells ⟨l, 3, t, p, 0, 0, chNil, emptyS⟩)] (w5.setRow B2 (enCells ⟨l, 3, t, p, 0, 0, chNil, emptyS⟩).toArray)) := (HS4.out).row 2 rfl (enCells ⟨l, 3, t, p, 0, 0, chNil, emptyS⟩)
  refine hK.out _ _ (HS5.out.pick [0] rfl) (fun hHeld => ?_)
  clear hK K
  generalize (w5.setRow B2 (enCells ⟨l, 3, t, p, 0, 0, chNil, emptyS⟩).toArray) = w6 at *
  try simp only [Act.put, List.setIfInBounds_toArray, List.set_cons_zero, List.set_cons_succ]
  refine wpAnyH_done (by kernel_rfl) ?_ _
  by_cases t1 : 1 ≤ t
  case neg =>
    go_upto_region 15 with (fail)
    refine wp_region_held_drew (S := fun w' => Hold w.heap.size [.ob (w.heap.size) 28 (enCells ⟨l, 3, t, p, g, r, c, s⟩), .ob B2 28 (enCells ⟨l, 3, t, p, 0, 0, chNil, emptyS⟩)] w') (by kernel_rfl) ((HS5.out).drew.pick [0, 2] rfl) (fun hHeld => ?_)
    refine wpAnyH_take (i := 0) (oi := { dst := some 77, op := Op.load 28 (Operand.tmp 4), type := 28, pos := "ref.go:27", after := #[], guard := none }) rfl (by kernel_rfl) (by kernel_rfl) (by kernel_rfl) (fun _ _ _ h => h) (yieldsIf_load_mid (by rfl) 28 (.tmp 4) rfl B2 0 rfl (enCells ⟨l, 3, t, p, 0, 0, chNil, emptyS⟩) _ (fun _ h => h.whole 1 rfl) HUE.out rfl (info_en)) hHeld ?_
    try simp only [Act.put, List.setIfInBounds_toArray, List.set_cons_zero, List.set_cons_succ]
    refine wpAnyH_take (i := 1) (oi := { dst := some 78, op := Op.fieldAddr 28 (Operand.tmp 1) 2, type := 0, pos := "ref.go:27", after := #[], guard := none }) (v := ?q8v) rfl (by kernel_rfl) (by kernel_rfl) (by kernel_rfl) (fun _ _ _ h => h) (Or.inl ⟨by rfl, ?q8h⟩) hHeld ?q8r
    case q8h => (intro wq hSw; clear hSw; go_simp; try with_reducible rfl)
    try simp only [Act.put, List.setIfInBounds_toArray, List.set_cons_zero, List.set_cons_succ]
    refine wpAnyH_take (i := 2) (oi := { dst := some 79, op := Op.load 3 (Operand.tmp 78), type := 3, pos := "ref.go:27", after := #[{ on := 1, ground := Ground.data }], guard := none }) (v := .int .i64 t) rfl (by kernel_rfl) (by kernel_rfl) (by kernel_rfl) (fun _ _ _ h => h) (Or.inl ⟨by rfl, ?q9h⟩) hHeld ?q9r
    case q9h => (intro wq hSw; have lq := hSw.at 0 rfl 2 (v := .int .i64 t) rfl; clear hSw; go_simp; try with_reducible rfl)
    try simp only [Act.put, List.setIfInBounds_toArray, List.set_cons_zero, List.set_cons_succ]
    refine wpAnyH_take (i := 3) (oi := { dst := some 80, op := Op.binOp BinOp.geq 3 (Operand.tmp 79) (Operand.const (Value.int IntKind.i64 1)) 3, type := 4, pos := "ref.go:27", after := #[{ on := 2, ground := Ground.data }], guard := none }) (v := .bool false) rfl (by kernel_rfl) (by kernel_rfl) (by kernel_rfl) (fun _ _ _ h => h) (Or.inl ⟨by rfl, ?q10h⟩) hHeld ?q10r
    case q10h => (intro wq hSw; clear hSw; go_simp; try with_reducible rfl)
    try simp only [Act.put, List.setIfInBounds_toArray, List.set_cons_zero, List.set_cons_succ]
    refine wpAnyH_take (i := 4) (oi := { dst := some 81, op := Op.move (Operand.tmp 80), type := 4, pos := "ref.go:27", after := #[{ on := 3, ground := Ground.data }], guard := none }) (v := ?q11v) rfl (by kernel_rfl) (by kernel_rfl) (by kernel_rfl) (fun _ _ _ h => h) (Or.inl ⟨by rfl, ?q11h⟩) hHeld ?q11r
    case q11h => (intro wq hSw; clear hSw; go_simp; try with_reducible rfl)
    try simp only [Act.put, List.setIfInBounds_toArray, List.set_cons_zero, List.set_cons_succ]
    refine wpAnyH_take (i := 5) (oi := { dst := some 82, op := Op.fieldAddr 28 (Operand.tmp 1) 2, type := 0, pos := "ref.go:27", after := #[{ on := 4, ground := Ground.guard }], guard := some (4, true) }) (v := undef) rfl (by kernel_rfl) (by kernel_rfl) (by kernel_rfl) (fun _ _ _ h => h) (Or.inr ⟨by rfl, rfl⟩) hHeld ?_
    try simp only [Act.put, List.setIfInBounds_toArray, List.set_cons_zero, List.set_cons_succ]
    refine wpAnyH_take (i := 6) (oi := { dst := some 83, op := Op.load 3 (Operand.tmp 82), type := 3, pos := "ref.go:27", after := #[{ on := 5, ground := Ground.data }, { on := 4, ground := Ground.guard }], guard := some (4, true) }) (v := undef) rfl (by kernel_rfl) (by kernel_rfl) (by kernel_rfl) (fun _ _ _ h => h) (Or.inr ⟨by rfl, rfl⟩) hHeld ?_
    try simp only [Act.put, List.setIfInBounds_toArray, List.set_cons_zero, List.set_cons_succ]
    refine wpAnyH_take (i := 7) (oi := { dst := some 84, op := Op.binOp BinOp.leq 3 (Operand.tmp 83) (Operand.const (Value.int IntKind.i64 1073741824)) 3, type := 4, pos := "ref.go:27", after := #[{ on := 6, ground := Ground.data }, { on := 4, ground := Ground.guard }], guard := some (4, true) }) (v := undef) rfl (by kernel_rfl) (by kernel_rfl) (by kernel_rfl) (fun _ _ _ h => h) (Or.inr ⟨by rfl, rfl⟩) hHeld ?_
    try simp only [Act.put, List.setIfInBounds_toArray, List.set_cons_zero, List.set_cons_succ]
    refine wpAnyH_take (i := 8) (oi := { dst := some 85, op := Op.pick (Operand.tmp 81) (Operand.tmp 84) (Operand.const (Value.bool false)), type := 4, pos := "ref.go:27", after := #[{ on := 4, ground := Ground.data }, { on := 7, ground := Ground.data }], guard := none }) (v := .bool false) rfl (by kernel_rfl) (by kernel_rfl) (by kernel_rfl) (fun _ _ _ h => h) (Or.inl ⟨by rfl, ?q15h⟩) hHeld ?q15r
    case q15h => (intro wq hSw; clear hSw; go_simp; try with_reducible rfl)
    try simp only [Act.put, List.setIfInBounds_toArray, List.set_cons_zero, List.set_cons_succ]
    refine wpAnyH_take (i := 9) (oi := { dst := some 86, op := Op.move (Operand.tmp 85), type := 4, pos := "ref.go:27", after := #[{ on := 8, ground := Ground.data }, { on := 4, ground := Ground.chain }], guard := none }) (v := ?q16v) rfl (by kernel_rfl) (by kernel_rfl) (by kernel_rfl) (fun _ _ _ h => h) (Or.inl ⟨by rfl, ?q16h⟩) hHeld ?q16r
    case q16h => (intro wq hSw; clear hSw; go_simp; try with_reducible rfl)
    try simp only [Act.put, List.setIfInBounds_toArray, List.set_cons_zero, List.set_cons_succ]
    refine wpAnyH_take (i := 10) (oi := { dst := some 87, op := Op.fieldAddr 28 (Operand.tmp 1) 3, type := 0, pos := "ref.go:27", after := #[{ on := 9, ground := Ground.guard }, { on := 14, ground := Ground.gcOnly Departure.lateStores }], guard := some (9, true) }) (v := undef) rfl (by kernel_rfl) (by kernel_rfl) (by kernel_rfl) (fun _ _ _ h => h) (Or.inr ⟨by rfl, rfl⟩) hHeld ?_
    try simp only [Act.put, List.setIfInBounds_toArray, List.set_cons_zero, List.set_cons_succ]
    refine wpAnyH_take (i := 11) (oi := { dst := some 88, op := Op.load 3 (Operand.tmp 87), type := 3, pos := "ref.go:27", after := #[{ on := 10, ground := Ground.data }, { on := 9, ground := Ground.guard }, { on := 14, ground := Ground.gcOnly Departure.lateStores }], guard := some (9, true) }) (v := undef) rfl (by kernel_rfl) (by kernel_rfl) (by kernel_rfl) (fun _ _ _ h => h) (Or.inr ⟨by rfl, rfl⟩) hHeld ?_
    try simp only [Act.put, List.setIfInBounds_toArray, List.set_cons_zero, List.set_cons_succ]
    refine wpAnyH_take (i := 12) (oi := { dst := some 89, op := Op.binOp BinOp.gtr 3 (Operand.tmp 88) (Operand.const (Value.int IntKind.i64 0)) 3, type := 4, pos := "ref.go:27", after := #[{ on := 11, ground := Ground.data }, { on := 9, ground := Ground.guard }, { on := 14, ground := Ground.gcOnly Departure.lateStores }], guard := some (9, true) }) (v := undef) rfl (by kernel_rfl) (by kernel_rfl) (by kernel_rfl) (fun _ _ _ h => h) (Or.inr ⟨by rfl, rfl⟩) hHeld ?_
    try simp only [Act.put, List.setIfInBounds_toArray, List.set_cons_zero, List.set_cons_succ]
    refine wpAnyH_take (i := 13) (oi := { dst := some 90, op := Op.pick (Operand.tmp 86) (Operand.tmp 89) (Operand.const (Value.bool false)), type := 4, pos := "ref.go:27", after := #[{ on := 9, ground := Ground.data }, { on := 12, ground := Ground.data }, { on := 14, ground := Ground.gcOnly Departure.lateStores }], guard := none }) (v := .bool false) rfl (by kernel_rfl) (by kernel_rfl) (by kernel_rfl) (fun _ _ _ h => h) (Or.inl ⟨by rfl, ?q20h⟩) hHeld ?q20r
    case q20h => (intro wq hSw; clear hSw; go_simp; try with_reducible rfl)
    try simp only [Act.put, List.setIfInBounds_toArray, List.set_cons_zero, List.set_cons_succ]
    refine wpAnyH_ready (rs := [14]) (by kernel_rfl) (by simp) ?_
    refine AllReadyH.cons (o := { dst := none, op := Op.store 28 (Operand.tmp 2) (Operand.tmp 77), type := 0, pos := "ref.go:27", after := #[{ on := 0, ground := Ground.data }, { on := 9, ground := Ground.chain }, { on := 0, ground := Ground.phase }, { on := 1, ground := Ground.textOnly Departure.lateStores }, { on := 2, ground := Ground.textOnly Departure.lateStores }, { on := 3, ground := Ground.textOnly Departure.lateStores }, { on := 4, ground := Ground.textOnly Departure.lateStores }, { on := 5, ground := Ground.textOnly Departure.lateStores }, { on := 6, ground := Ground.textOnly Departure.lateStores }, { on := 7, ground := Ground.textOnly Departure.lateStores }, { on := 8, ground := Ground.textOnly Departure.lateStores }, { on := 9, ground := Ground.textOnly Departure.lateStores }, { on := 10, ground := Ground.textOnly Departure.lateStores }, { on := 11, ground := Ground.textOnly Departure.lateStores }, { on := 12, ground := Ground.textOnly Departure.lateStores }, { on := 13, ground := Ground.textOnly Departure.lateStores }], guard := none }) rfl (fun K hK => ?_) (AllReadyH.nil)
    rw [if_pos (by rfl)]
    refine wp_store_ob 28 (.tmp 2) (.tmp 77) B1 (enCells ⟨l, 3, t, p, 0, 0, chNil, emptyS⟩) (enCells enNil) 28 rfl rfl rfl rfl (((HS5.out).drew).get 1 rfl) (info_en) (rfl) ((oneCell_en _)) ?_
    have HS6 : Hid (Hp w [.ob (w.heap.size) 28 (enCells ⟨l, 3, t, p, g, r, c, s⟩), .ob B1 28 (enCells ⟨l, 3, t, p, 0, 0, chNil, emptyS⟩), .ob B2 28 (enCells ⟨l, 3, t, p, 0, 0, chNil, emptyS⟩)] (w6.drew.setRow B1 (enCells ⟨l, 3, t, p, 0, 0, chNil, emptyS⟩).toArray)) := ((HS5.out).drew).row 1 rfl (enCells ⟨l, 3, t, p, 0, 0, chNil, emptyS⟩)
    refine hK.out _ _ (HS6.out.pick [0, 2] rfl) (fun hHeld => ?_)
    clear hK K
    generalize (w6.drew.setRow B1 (enCells ⟨l, 3, t, p, 0, 0, chNil, emptyS⟩).toArray) = w7 at *
    try simp only [Act.put, List.setIfInBounds_toArray, List.set_cons_zero, List.set_cons_succ]
    refine wpAnyH_take (i := 15) (oi := { dst := some 3, op := Op.assign (Operand.tmp 90), type := 4, pos := "ref.go:27", after := #[{ on := 13, ground := Ground.data }, { on := 14, ground := Ground.chain }, { on := 0, ground := Ground.phase }, { on := 1, ground := Ground.phase }, { on := 2, ground := Ground.phase }, { on := 3, ground := Ground.phase }, { on := 4, ground := Ground.phase }, { on := 5, ground := Ground.phase }, { on := 6, ground := Ground.phase }, { on := 7, ground := Ground.phase }, { on := 8, ground := Ground.phase }, { on := 9, ground := Ground.phase }, { on := 10, ground := Ground.phase }, { on := 11, ground := Ground.phase }, { on := 12, ground := Ground.phase }, { on := 13, ground := Ground.phase }, { on := 14, ground := Ground.phase }], guard := none }) (v := ?q21v) rfl (by kernel_rfl) (by kernel_rfl) (by kernel_rfl) (fun _ _ _ h => h) (Or.inl ⟨by rfl, ?q21h⟩) hHeld ?q21r
    case q21h => (intro wq hSw; clear hSw; go_simp; try with_reducible rfl)
    try simp only [Act.put, List.setIfInBounds_toArray, List.set_cons_zero, List.set_cons_succ]
    refine wpAnyH_done (by kernel_rfl) ?_ _
    go_wp2_with fail
    refine bodyPost_ret (results_ob_tmp Try.results32 _ _ B1 (enCells ⟨l, 3, t, p, 0, 0, chNil, emptyS⟩) 28 _ rfl ((HS6.out).get 1 rfl) HUE.out rfl info_en) rfl ?_
    exact ShPost.mk rfl (by show (isTxB t && posB p) = _; simp [isTxB, posB]; omega) (HS6.out).old
  case pos =>
    by_cases t2 : t ≤ 1073741824
    case neg =>
      go_upto_region 15 with (fail)
      refine wp_region_held_drew (S := fun w' => Hold w.heap.size [.ob (w.heap.size) 28 (enCells ⟨l, 3, t, p, g, r, c, s⟩), .ob B2 28 (enCells ⟨l, 3, t, p, 0, 0, chNil, emptyS⟩)] w') (by kernel_rfl) ((HS5.out).drew.pick [0, 2] rfl) (fun hHeld => ?_)
      refine wpAnyH_take (i := 0) (oi := { dst := some 77, op := Op.load 28 (Operand.tmp 4), type := 28, pos := "ref.go:27", after := #[], guard := none }) rfl (by kernel_rfl) (by kernel_rfl) (by kernel_rfl) (fun _ _ _ h => h) (yieldsIf_load_mid (by rfl) 28 (.tmp 4) rfl B2 0 rfl (enCells ⟨l, 3, t, p, 0, 0, chNil, emptyS⟩) _ (fun _ h => h.whole 1 rfl) HUE.out rfl (info_en)) hHeld ?_
      try simp only [Act.put, List.setIfInBounds_toArray, List.set_cons_zero, List.set_cons_succ]
      refine wpAnyH_take (i := 1) (oi := { dst := some 78, op := Op.fieldAddr 28 (Operand.tmp 1) 2, type := 0, pos := "ref.go:27", after := #[], guard := none }) (v := ?q23v) rfl (by kernel_rfl) (by kernel_rfl) (by kernel_rfl) (fun _ _ _ h => h) (Or.inl ⟨by rfl, ?q23h⟩) hHeld ?q23r
      case q23h => (intro wq hSw; clear hSw; go_simp; try with_reducible rfl)
      try simp only [Act.put, List.setIfInBounds_toArray, List.set_cons_zero, List.set_cons_succ]
      refine wpAnyH_take (i := 2) (oi := { dst := some 79, op := Op.load 3 (Operand.tmp 78), type := 3, pos := "ref.go:27", after := #[{ on := 1, ground := Ground.data }], guard := none }) (v := .int .i64 t) rfl (by kernel_rfl) (by kernel_rfl) (by kernel_rfl) (fun _ _ _ h => h) (Or.inl ⟨by rfl, ?q24h⟩) hHeld ?q24r
      case q24h => (intro wq hSw; have lq := hSw.at 0 rfl 2 (v := .int .i64 t) rfl; clear hSw; go_simp; try with_reducible rfl)
      try simp only [Act.put, List.setIfInBounds_toArray, List.set_cons_zero, List.set_cons_succ]
      refine wpAnyH_take (i := 3) (oi := { dst := some 80, op := Op.binOp BinOp.geq 3 (Operand.tmp 79) (Operand.const (Value.int IntKind.i64 1)) 3, type := 4, pos := "ref.go:27", after := #[{ on := 2, ground := Ground.data }], guard := none }) (v := .bool true) rfl (by kernel_rfl) (by kernel_rfl) (by kernel_rfl) (fun _ _ _ h => h) (Or.inl ⟨by rfl, ?q25h⟩) hHeld ?q25r
      case q25h => (intro wq hSw; clear hSw; go_simp; try with_reducible rfl)
      try simp only [Act.put, List.setIfInBounds_toArray, List.set_cons_zero, List.set_cons_succ]
      refine wpAnyH_take (i := 4) (oi := { dst := some 81, op := Op.move (Operand.tmp 80), type := 4, pos := "ref.go:27", after := #[{ on := 3, ground := Ground.data }], guard := none }) (v := ?q26v) rfl (by kernel_rfl) (by kernel_rfl) (by kernel_rfl) (fun _ _ _ h => h) (Or.inl ⟨by rfl, ?q26h⟩) hHeld ?q26r
      case q26h => (intro wq hSw; clear hSw; go_simp; try with_reducible rfl)
      try simp only [Act.put, List.setIfInBounds_toArray, List.set_cons_zero, List.set_cons_succ]
      refine wpAnyH_take (i := 5) (oi := { dst := some 82, op := Op.fieldAddr 28 (Operand.tmp 1) 2, type := 0, pos := "ref.go:27", after := #[{ on := 4, ground := Ground.guard }], guard := some (4, true) }) (v := ?q27v) rfl (by kernel_rfl) (by kernel_rfl) (by kernel_rfl) (fun _ _ _ h => h) (Or.inl ⟨by rfl, ?q27h⟩) hHeld ?q27r
      case q27h => (intro wq hSw; clear hSw; go_simp; try with_reducible rfl)
      try simp only [Act.put, List.setIfInBounds_toArray, List.set_cons_zero, List.set_cons_succ]
      refine wpAnyH_take (i := 6) (oi := { dst := some 83, op := Op.load 3 (Operand.tmp 82), type := 3, pos := "ref.go:27", after := #[{ on := 5, ground := Ground.data }, { on := 4, ground := Ground.guard }], guard := some (4, true) }) (v := .int .i64 t) rfl (by kernel_rfl) (by kernel_rfl) (by kernel_rfl) (fun _ _ _ h => h) (Or.inl ⟨by rfl, ?q28h⟩) hHeld ?q28r
      case q28h => (intro wq hSw; have lq := hSw.at 0 rfl 2 (v := .int .i64 t) rfl; clear hSw; go_simp; try with_reducible rfl)
      try simp only [Act.put, List.setIfInBounds_toArray, List.set_cons_zero, List.set_cons_succ]
      refine wpAnyH_take (i := 7) (oi := { dst := some 84, op := Op.binOp BinOp.leq 3 (Operand.tmp 83) (Operand.const (Value.int IntKind.i64 1073741824)) 3, type := 4, pos := "ref.go:27", after := #[{ on := 6, ground := Ground.data }, { on := 4, ground := Ground.guard }], guard := some (4, true) }) (v := .bool false) rfl (by kernel_rfl) (by kernel_rfl) (by kernel_rfl) (fun _ _ _ h => h) (Or.inl ⟨by rfl, ?q29h⟩) hHeld ?q29r
      case q29h => (intro wq hSw; clear hSw; go_simp; try with_reducible rfl)
      try simp only [Act.put, List.setIfInBounds_toArray, List.set_cons_zero, List.set_cons_succ]
      refine wpAnyH_take (i := 8) (oi := { dst := some 85, op := Op.pick (Operand.tmp 81) (Operand.tmp 84) (Operand.const (Value.bool false)), type := 4, pos := "ref.go:27", after := #[{ on := 4, ground := Ground.data }, { on := 7, ground := Ground.data }], guard := none }) (v := .bool false) rfl (by kernel_rfl) (by kernel_rfl) (by kernel_rfl) (fun _ _ _ h => h) (Or.inl ⟨by rfl, ?q30h⟩) hHeld ?q30r
      case q30h => (intro wq hSw; clear hSw; go_simp; try with_reducible rfl)
      try simp only [Act.put, List.setIfInBounds_toArray, List.set_cons_zero, List.set_cons_succ]
      refine wpAnyH_take (i := 9) (oi := { dst := some 86, op := Op.move (Operand.tmp 85), type := 4, pos := "ref.go:27", after := #[{ on := 8, ground := Ground.data }, { on := 4, ground := Ground.chain }], guard := none }) (v := ?q31v) rfl (by kernel_rfl) (by kernel_rfl) (by kernel_rfl) (fun _ _ _ h => h) (Or.inl ⟨by rfl, ?q31h⟩) hHeld ?q31r
      case q31h => (intro wq hSw; clear hSw; go_simp; try with_reducible rfl)
      try simp only [Act.put, List.setIfInBounds_toArray, List.set_cons_zero, List.set_cons_succ]
      refine wpAnyH_take (i := 10) (oi := { dst := some 87, op := Op.fieldAddr 28 (Operand.tmp 1) 3, type := 0, pos := "ref.go:27", after := #[{ on := 9, ground := Ground.guard }, { on := 14, ground := Ground.gcOnly Departure.lateStores }], guard := some (9, true) }) (v := undef) rfl (by kernel_rfl) (by kernel_rfl) (by kernel_rfl) (fun _ _ _ h => h) (Or.inr ⟨by rfl, rfl⟩) hHeld ?_
      try simp only [Act.put, List.setIfInBounds_toArray, List.set_cons_zero, List.set_cons_succ]
      refine wpAnyH_take (i := 11) (oi := { dst := some 88, op := Op.load 3 (Operand.tmp 87), type := 3, pos := "ref.go:27", after := #[{ on := 10, ground := Ground.data }, { on := 9, ground := Ground.guard }, { on := 14, ground := Ground.gcOnly Departure.lateStores }], guard := some (9, true) }) (v := undef) rfl (by kernel_rfl) (by kernel_rfl) (by kernel_rfl) (fun _ _ _ h => h) (Or.inr ⟨by rfl, rfl⟩) hHeld ?_
      try simp only [Act.put, List.setIfInBounds_toArray, List.set_cons_zero, List.set_cons_succ]
      refine wpAnyH_take (i := 12) (oi := { dst := some 89, op := Op.binOp BinOp.gtr 3 (Operand.tmp 88) (Operand.const (Value.int IntKind.i64 0)) 3, type := 4, pos := "ref.go:27", after := #[{ on := 11, ground := Ground.data }, { on := 9, ground := Ground.guard }, { on := 14, ground := Ground.gcOnly Departure.lateStores }], guard := some (9, true) }) (v := undef) rfl (by kernel_rfl) (by kernel_rfl) (by kernel_rfl) (fun _ _ _ h => h) (Or.inr ⟨by rfl, rfl⟩) hHeld ?_
      try simp only [Act.put, List.setIfInBounds_toArray, List.set_cons_zero, List.set_cons_succ]
      refine wpAnyH_take (i := 13) (oi := { dst := some 90, op := Op.pick (Operand.tmp 86) (Operand.tmp 89) (Operand.const (Value.bool false)), type := 4, pos := "ref.go:27", after := #[{ on := 9, ground := Ground.data }, { on := 12, ground := Ground.data }, { on := 14, ground := Ground.gcOnly Departure.lateStores }], guard := none }) (v := .bool false) rfl (by kernel_rfl) (by kernel_rfl) (by kernel_rfl) (fun _ _ _ h => h) (Or.inl ⟨by rfl, ?q35h⟩) hHeld ?q35r
      case q35h => (intro wq hSw; clear hSw; go_simp; try with_reducible rfl)
      try simp only [Act.put, List.setIfInBounds_toArray, List.set_cons_zero, List.set_cons_succ]
      refine wpAnyH_ready (rs := [14]) (by kernel_rfl) (by simp) ?_
      refine AllReadyH.cons (o := { dst := none, op := Op.store 28 (Operand.tmp 2) (Operand.tmp 77), type := 0, pos := "ref.go:27", after := #[{ on := 0, ground := Ground.data }, { on := 9, ground := Ground.chain }, { on := 0, ground := Ground.phase }, { on := 1, ground := Ground.textOnly Departure.lateStores }, { on := 2, ground := Ground.textOnly Departure.lateStores }, { on := 3, ground := Ground.textOnly Departure.lateStores }, { on := 4, ground := Ground.textOnly Departure.lateStores }, { on := 5, ground := Ground.textOnly Departure.lateStores }, { on := 6, ground := Ground.textOnly Departure.lateStores }, { on := 7, ground := Ground.textOnly Departure.lateStores }, { on := 8, ground := Ground.textOnly Departure.lateStores }, { on := 9, ground := Ground.textOnly Departure.lateStores }, { on := 10, ground := Ground.textOnly Departure.lateStores }, { on := 11, ground := Ground.textOnly Departure.lateStores }, { on := 12, ground := Ground.textOnly Departure.lateStores }, { on := 13, ground := Ground.textOnly Departure.lateStores }], guard := none }) rfl (fun K hK => ?_) (AllReadyH.nil)
      rw [if_pos (by rfl)]
      refine wp_store_ob 28 (.tmp 2) (.tmp 77) B1 (enCells ⟨l, 3, t, p, 0, 0, chNil, emptyS⟩) (enCells enNil) 28 rfl rfl rfl rfl (((HS5.out).drew).get 1 rfl) (info_en) (rfl) ((oneCell_en _)) ?_
      have HS6 : Hid (Hp w [.ob (w.heap.size) 28 (enCells ⟨l, 3, t, p, g, r, c, s⟩), .ob B1 28 (enCells ⟨l, 3, t, p, 0, 0, chNil, emptyS⟩), .ob B2 28 (enCells ⟨l, 3, t, p, 0, 0, chNil, emptyS⟩)] (w6.drew.setRow B1 (enCells ⟨l, 3, t, p, 0, 0, chNil, emptyS⟩).toArray)) := ((HS5.out).drew).row 1 rfl (enCells ⟨l, 3, t, p, 0, 0, chNil, emptyS⟩)
      refine hK.out _ _ (HS6.out.pick [0, 2] rfl) (fun hHeld => ?_)
      clear hK K
      generalize (w6.drew.setRow B1 (enCells ⟨l, 3, t, p, 0, 0, chNil, emptyS⟩).toArray) = w7 at *
      try simp only [Act.put, List.setIfInBounds_toArray, List.set_cons_zero, List.set_cons_succ]
      refine wpAnyH_take (i := 15) (oi := { dst := some 3, op := Op.assign (Operand.tmp 90), type := 4, pos := "ref.go:27", after := #[{ on := 13, ground := Ground.data }, { on := 14, ground := Ground.chain }, { on := 0, ground := Ground.phase }, { on := 1, ground := Ground.phase }, { on := 2, ground := Ground.phase }, { on := 3, ground := Ground.phase }, { on := 4, ground := Ground.phase }, { on := 5, ground := Ground.phase }, { on := 6, ground := Ground.phase }, { on := 7, ground := Ground.phase }, { on := 8, ground := Ground.phase }, { on := 9, ground := Ground.phase }, { on := 10, ground := Ground.phase }, { on := 11, ground := Ground.phase }, { on := 12, ground := Ground.phase }, { on := 13, ground := Ground.phase }, { on := 14, ground := Ground.phase }], guard := none }) (v := ?q36v) rfl (by kernel_rfl) (by kernel_rfl) (by kernel_rfl) (fun _ _ _ h => h) (Or.inl ⟨by rfl, ?q36h⟩) hHeld ?q36r
      case q36h => (intro wq hSw; clear hSw; go_simp; try with_reducible rfl)
      try simp only [Act.put, List.setIfInBounds_toArray, List.set_cons_zero, List.set_cons_succ]
      refine wpAnyH_done (by kernel_rfl) ?_ _
      go_wp2_with fail
      refine bodyPost_ret (results_ob_tmp Try.results32 _ _ B1 (enCells ⟨l, 3, t, p, 0, 0, chNil, emptyS⟩) 28 _ rfl ((HS6.out).get 1 rfl) HUE.out rfl info_en) rfl ?_
      exact ShPost.mk rfl (by show (isTxB t && posB p) = _; simp [isTxB, posB]; omega) (HS6.out).old
    case pos =>
      by_cases p1 : 0 < p
      case neg =>
        go_upto_region 15 with (fail)
        refine wp_region_held_drew (S := fun w' => Hold w.heap.size [.ob (w.heap.size) 28 (enCells ⟨l, 3, t, p, g, r, c, s⟩), .ob B2 28 (enCells ⟨l, 3, t, p, 0, 0, chNil, emptyS⟩)] w') (by kernel_rfl) ((HS5.out).drew.pick [0, 2] rfl) (fun hHeld => ?_)
        refine wpAnyH_take (i := 0) (oi := { dst := some 77, op := Op.load 28 (Operand.tmp 4), type := 28, pos := "ref.go:27", after := #[], guard := none }) rfl (by kernel_rfl) (by kernel_rfl) (by kernel_rfl) (fun _ _ _ h => h) (yieldsIf_load_mid (by rfl) 28 (.tmp 4) rfl B2 0 rfl (enCells ⟨l, 3, t, p, 0, 0, chNil, emptyS⟩) _ (fun _ h => h.whole 1 rfl) HUE.out rfl (info_en)) hHeld ?_
        try simp only [Act.put, List.setIfInBounds_toArray, List.set_cons_zero, List.set_cons_succ]
        refine wpAnyH_take (i := 1) (oi := { dst := some 78, op := Op.fieldAddr 28 (Operand.tmp 1) 2, type := 0, pos := "ref.go:27", after := #[], guard := none }) (v := ?q38v) rfl (by kernel_rfl) (by kernel_rfl) (by kernel_rfl) (fun _ _ _ h => h) (Or.inl ⟨by rfl, ?q38h⟩) hHeld ?q38r
        case q38h => (intro wq hSw; clear hSw; go_simp; try with_reducible rfl)
        try simp only [Act.put, List.setIfInBounds_toArray, List.set_cons_zero, List.set_cons_succ]
        refine wpAnyH_take (i := 2) (oi := { dst := some 79, op := Op.load 3 (Operand.tmp 78), type := 3, pos := "ref.go:27", after := #[{ on := 1, ground := Ground.data }], guard := none }) (v := .int .i64 t) rfl (by kernel_rfl) (by kernel_rfl) (by kernel_rfl) (fun _ _ _ h => h) (Or.inl ⟨by rfl, ?q39h⟩) hHeld ?q39r
        case q39h => (intro wq hSw; have lq := hSw.at 0 rfl 2 (v := .int .i64 t) rfl; clear hSw; go_simp; try with_reducible rfl)
        try simp only [Act.put, List.setIfInBounds_toArray, List.set_cons_zero, List.set_cons_succ]
        refine wpAnyH_take (i := 3) (oi := { dst := some 80, op := Op.binOp BinOp.geq 3 (Operand.tmp 79) (Operand.const (Value.int IntKind.i64 1)) 3, type := 4, pos := "ref.go:27", after := #[{ on := 2, ground := Ground.data }], guard := none }) (v := .bool true) rfl (by kernel_rfl) (by kernel_rfl) (by kernel_rfl) (fun _ _ _ h => h) (Or.inl ⟨by rfl, ?q40h⟩) hHeld ?q40r
        case q40h => (intro wq hSw; clear hSw; go_simp; try with_reducible rfl)
        try simp only [Act.put, List.setIfInBounds_toArray, List.set_cons_zero, List.set_cons_succ]
        refine wpAnyH_take (i := 4) (oi := { dst := some 81, op := Op.move (Operand.tmp 80), type := 4, pos := "ref.go:27", after := #[{ on := 3, ground := Ground.data }], guard := none }) (v := ?q41v) rfl (by kernel_rfl) (by kernel_rfl) (by kernel_rfl) (fun _ _ _ h => h) (Or.inl ⟨by rfl, ?q41h⟩) hHeld ?q41r
        case q41h => (intro wq hSw; clear hSw; go_simp; try with_reducible rfl)
        try simp only [Act.put, List.setIfInBounds_toArray, List.set_cons_zero, List.set_cons_succ]
        refine wpAnyH_take (i := 5) (oi := { dst := some 82, op := Op.fieldAddr 28 (Operand.tmp 1) 2, type := 0, pos := "ref.go:27", after := #[{ on := 4, ground := Ground.guard }], guard := some (4, true) }) (v := ?q42v) rfl (by kernel_rfl) (by kernel_rfl) (by kernel_rfl) (fun _ _ _ h => h) (Or.inl ⟨by rfl, ?q42h⟩) hHeld ?q42r
        case q42h => (intro wq hSw; clear hSw; go_simp; try with_reducible rfl)
        try simp only [Act.put, List.setIfInBounds_toArray, List.set_cons_zero, List.set_cons_succ]
        refine wpAnyH_take (i := 6) (oi := { dst := some 83, op := Op.load 3 (Operand.tmp 82), type := 3, pos := "ref.go:27", after := #[{ on := 5, ground := Ground.data }, { on := 4, ground := Ground.guard }], guard := some (4, true) }) (v := .int .i64 t) rfl (by kernel_rfl) (by kernel_rfl) (by kernel_rfl) (fun _ _ _ h => h) (Or.inl ⟨by rfl, ?q43h⟩) hHeld ?q43r
        case q43h => (intro wq hSw; have lq := hSw.at 0 rfl 2 (v := .int .i64 t) rfl; clear hSw; go_simp; try with_reducible rfl)
        try simp only [Act.put, List.setIfInBounds_toArray, List.set_cons_zero, List.set_cons_succ]
        refine wpAnyH_take (i := 7) (oi := { dst := some 84, op := Op.binOp BinOp.leq 3 (Operand.tmp 83) (Operand.const (Value.int IntKind.i64 1073741824)) 3, type := 4, pos := "ref.go:27", after := #[{ on := 6, ground := Ground.data }, { on := 4, ground := Ground.guard }], guard := some (4, true) }) (v := .bool true) rfl (by kernel_rfl) (by kernel_rfl) (by kernel_rfl) (fun _ _ _ h => h) (Or.inl ⟨by rfl, ?q44h⟩) hHeld ?q44r
        case q44h => (intro wq hSw; clear hSw; go_simp; try with_reducible rfl)
        try simp only [Act.put, List.setIfInBounds_toArray, List.set_cons_zero, List.set_cons_succ]
        refine wpAnyH_take (i := 8) (oi := { dst := some 85, op := Op.pick (Operand.tmp 81) (Operand.tmp 84) (Operand.const (Value.bool false)), type := 4, pos := "ref.go:27", after := #[{ on := 4, ground := Ground.data }, { on := 7, ground := Ground.data }], guard := none }) (v := .bool true) rfl (by kernel_rfl) (by kernel_rfl) (by kernel_rfl) (fun _ _ _ h => h) (Or.inl ⟨by rfl, ?q45h⟩) hHeld ?q45r
        case q45h => (intro wq hSw; clear hSw; go_simp; try with_reducible rfl)
        try simp only [Act.put, List.setIfInBounds_toArray, List.set_cons_zero, List.set_cons_succ]
        refine wpAnyH_take (i := 9) (oi := { dst := some 86, op := Op.move (Operand.tmp 85), type := 4, pos := "ref.go:27", after := #[{ on := 8, ground := Ground.data }, { on := 4, ground := Ground.chain }], guard := none }) (v := ?q46v) rfl (by kernel_rfl) (by kernel_rfl) (by kernel_rfl) (fun _ _ _ h => h) (Or.inl ⟨by rfl, ?q46h⟩) hHeld ?q46r
        case q46h => (intro wq hSw; clear hSw; go_simp; try with_reducible rfl)
        try simp only [Act.put, List.setIfInBounds_toArray, List.set_cons_zero, List.set_cons_succ]
        refine wpAnyH_take (i := 10) (oi := { dst := some 87, op := Op.fieldAddr 28 (Operand.tmp 1) 3, type := 0, pos := "ref.go:27", after := #[{ on := 9, ground := Ground.guard }, { on := 14, ground := Ground.gcOnly Departure.lateStores }], guard := some (9, true) }) (v := ?q47v) rfl (by kernel_rfl) (by kernel_rfl) (by kernel_rfl) (fun _ _ _ h => h) (Or.inl ⟨by rfl, ?q47h⟩) hHeld ?q47r
        case q47h => (intro wq hSw; clear hSw; go_simp; try with_reducible rfl)
        try simp only [Act.put, List.setIfInBounds_toArray, List.set_cons_zero, List.set_cons_succ]
        refine wpAnyH_take (i := 11) (oi := { dst := some 88, op := Op.load 3 (Operand.tmp 87), type := 3, pos := "ref.go:27", after := #[{ on := 10, ground := Ground.data }, { on := 9, ground := Ground.guard }, { on := 14, ground := Ground.gcOnly Departure.lateStores }], guard := some (9, true) }) (v := .int .i64 p) rfl (by kernel_rfl) (by kernel_rfl) (by kernel_rfl) (fun _ _ _ h => h) (Or.inl ⟨by rfl, ?q48h⟩) hHeld ?q48r
        case q48h => (intro wq hSw; have lq := hSw.at 0 rfl 3 (v := .int .i64 p) rfl; clear hSw; go_simp; try with_reducible rfl)
        try simp only [Act.put, List.setIfInBounds_toArray, List.set_cons_zero, List.set_cons_succ]
        refine wpAnyH_take (i := 12) (oi := { dst := some 89, op := Op.binOp BinOp.gtr 3 (Operand.tmp 88) (Operand.const (Value.int IntKind.i64 0)) 3, type := 4, pos := "ref.go:27", after := #[{ on := 11, ground := Ground.data }, { on := 9, ground := Ground.guard }, { on := 14, ground := Ground.gcOnly Departure.lateStores }], guard := some (9, true) }) (v := .bool false) rfl (by kernel_rfl) (by kernel_rfl) (by kernel_rfl) (fun _ _ _ h => h) (Or.inl ⟨by rfl, ?q49h⟩) hHeld ?q49r
        case q49h => (intro wq hSw; clear hSw; go_simp; try with_reducible rfl)
        try simp only [Act.put, List.setIfInBounds_toArray, List.set_cons_zero, List.set_cons_succ]
        refine wpAnyH_take (i := 13) (oi := { dst := some 90, op := Op.pick (Operand.tmp 86) (Operand.tmp 89) (Operand.const (Value.bool false)), type := 4, pos := "ref.go:27", after := #[{ on := 9, ground := Ground.data }, { on := 12, ground := Ground.data }, { on := 14, ground := Ground.gcOnly Departure.lateStores }], guard := none }) (v := .bool false) rfl (by kernel_rfl) (by kernel_rfl) (by kernel_rfl) (fun _ _ _ h => h) (Or.inl ⟨by rfl, ?q50h⟩) hHeld ?q50r
        case q50h => (intro wq hSw; clear hSw; go_simp; try with_reducible rfl)
        try simp only [Act.put, List.setIfInBounds_toArray, List.set_cons_zero, List.set_cons_succ]
        refine wpAnyH_ready (rs := [14]) (by kernel_rfl) (by simp) ?_
        refine AllReadyH.cons (o := { dst := none, op := Op.store 28 (Operand.tmp 2) (Operand.tmp 77), type := 0, pos := "ref.go:27", after := #[{ on := 0, ground := Ground.data }, { on := 9, ground := Ground.chain }, { on := 0, ground := Ground.phase }, { on := 1, ground := Ground.textOnly Departure.lateStores }, { on := 2, ground := Ground.textOnly Departure.lateStores }, { on := 3, ground := Ground.textOnly Departure.lateStores }, { on := 4, ground := Ground.textOnly Departure.lateStores }, { on := 5, ground := Ground.textOnly Departure.lateStores }, { on := 6, ground := Ground.textOnly Departure.lateStores }, { on := 7, ground := Ground.textOnly Departure.lateStores }, { on := 8, ground := Ground.textOnly Departure.lateStores }, { on := 9, ground := Ground.textOnly Departure.lateStores }, { on := 10, ground := Ground.textOnly Departure.lateStores }, { on := 11, ground := Ground.textOnly Departure.lateStores }, { on := 12, ground := Ground.textOnly Departure.lateStores }, { on := 13, ground := Ground.textOnly Departure.lateStores }], guard := none }) rfl (fun K hK => ?_) (AllReadyH.nil)
        rw [if_pos (by rfl)]
        refine wp_store_ob 28 (.tmp 2) (.tmp 77) B1 (enCells ⟨l, 3, t, p, 0, 0, chNil, emptyS⟩) (enCells enNil) 28 rfl rfl rfl rfl (((HS5.out).drew).get 1 rfl) (info_en) (rfl) ((oneCell_en _)) ?_
        have HS6 : Hid (Hp w [.ob (w.heap.size) 28 (enCells ⟨l, 3, t, p, g, r, c, s⟩), .ob B1 28 (enCells ⟨l, 3, t, p, 0, 0, chNil, emptyS⟩), .ob B2 28 (enCells ⟨l, 3, t, p, 0, 0, chNil, emptyS⟩)] (w6.drew.setRow B1 (enCells ⟨l, 3, t, p, 0, 0, chNil, emptyS⟩).toArray)) := ((HS5.out).drew).row 1 rfl (enCells ⟨l, 3, t, p, 0, 0, chNil, emptyS⟩)
        refine hK.out _ _ (HS6.out.pick [0, 2] rfl) (fun hHeld => ?_)
        clear hK K
        generalize (w6.drew.setRow B1 (enCells ⟨l, 3, t, p, 0, 0, chNil, emptyS⟩).toArray) = w7 at *
        try simp only [Act.put, List.setIfInBounds_toArray, List.set_cons_zero, List.set_cons_succ]
        refine wpAnyH_take (i := 15) (oi := { dst := some 3, op := Op.assign (Operand.tmp 90), type := 4, pos := "ref.go:27", after := #[{ on := 13, ground := Ground.data }, { on := 14, ground := Ground.chain }, { on := 0, ground := Ground.phase }, { on := 1, ground := Ground.phase }, { on := 2, ground := Ground.phase }, { on := 3, ground := Ground.phase }, { on := 4, ground := Ground.phase }, { on := 5, ground := Ground.phase }, { on := 6, ground := Ground.phase }, { on := 7, ground := Ground.phase }, { on := 8, ground := Ground.phase }, { on := 9, ground := Ground.phase }, { on := 10, ground := Ground.phase }, { on := 11, ground := Ground.phase }, { on := 12, ground := Ground.phase }, { on := 13, ground := Ground.phase }, { on := 14, ground := Ground.phase }], guard := none }) (v := ?q51v) rfl (by kernel_rfl) (by kernel_rfl) (by kernel_rfl) (fun _ _ _ h => h) (Or.inl ⟨by rfl, ?q51h⟩) hHeld ?q51r
        case q51h => (intro wq hSw; clear hSw; go_simp; try with_reducible rfl)
        try simp only [Act.put, List.setIfInBounds_toArray, List.set_cons_zero, List.set_cons_succ]
        refine wpAnyH_done (by kernel_rfl) ?_ _
        go_wp2_with fail
        refine bodyPost_ret (results_ob_tmp Try.results32 _ _ B1 (enCells ⟨l, 3, t, p, 0, 0, chNil, emptyS⟩) 28 _ rfl ((HS6.out).get 1 rfl) HUE.out rfl info_en) rfl ?_
        exact ShPost.mk rfl (by show (isTxB t && posB p) = _; simp [isTxB, posB]; omega) (HS6.out).old
      case pos =>
        go_upto_region 15 with (fail)
        refine wp_region_held_drew (S := fun w' => Hold w.heap.size [.ob (w.heap.size) 28 (enCells ⟨l, 3, t, p, g, r, c, s⟩), .ob B2 28 (enCells ⟨l, 3, t, p, 0, 0, chNil, emptyS⟩)] w') (by kernel_rfl) ((HS5.out).drew.pick [0, 2] rfl) (fun hHeld => ?_)
        refine wpAnyH_take (i := 0) (oi := { dst := some 77, op := Op.load 28 (Operand.tmp 4), type := 28, pos := "ref.go:27", after := #[], guard := none }) rfl (by kernel_rfl) (by kernel_rfl) (by kernel_rfl) (fun _ _ _ h => h) (yieldsIf_load_mid (by rfl) 28 (.tmp 4) rfl B2 0 rfl (enCells ⟨l, 3, t, p, 0, 0, chNil, emptyS⟩) _ (fun _ h => h.whole 1 rfl) HUE.out rfl (info_en)) hHeld ?_
        try simp only [Act.put, List.setIfInBounds_toArray, List.set_cons_zero, List.set_cons_succ]
        refine wpAnyH_take (i := 1) (oi := { dst := some 78, op := Op.fieldAddr 28 (Operand.tmp 1) 2, type := 0, pos := "ref.go:27", after := #[], guard := none }) (v := ?q53v) rfl (by kernel_rfl) (by kernel_rfl) (by kernel_rfl) (fun _ _ _ h => h) (Or.inl ⟨by rfl, ?q53h⟩) hHeld ?q53r
        case q53h => (intro wq hSw; clear hSw; go_simp; try with_reducible rfl)
        try simp only [Act.put, List.setIfInBounds_toArray, List.set_cons_zero, List.set_cons_succ]
        refine wpAnyH_take (i := 2) (oi := { dst := some 79, op := Op.load 3 (Operand.tmp 78), type := 3, pos := "ref.go:27", after := #[{ on := 1, ground := Ground.data }], guard := none }) (v := .int .i64 t) rfl (by kernel_rfl) (by kernel_rfl) (by kernel_rfl) (fun _ _ _ h => h) (Or.inl ⟨by rfl, ?q54h⟩) hHeld ?q54r
        case q54h => (intro wq hSw; have lq := hSw.at 0 rfl 2 (v := .int .i64 t) rfl; clear hSw; go_simp; try with_reducible rfl)
        try simp only [Act.put, List.setIfInBounds_toArray, List.set_cons_zero, List.set_cons_succ]
        refine wpAnyH_take (i := 3) (oi := { dst := some 80, op := Op.binOp BinOp.geq 3 (Operand.tmp 79) (Operand.const (Value.int IntKind.i64 1)) 3, type := 4, pos := "ref.go:27", after := #[{ on := 2, ground := Ground.data }], guard := none }) (v := .bool true) rfl (by kernel_rfl) (by kernel_rfl) (by kernel_rfl) (fun _ _ _ h => h) (Or.inl ⟨by rfl, ?q55h⟩) hHeld ?q55r
        case q55h => (intro wq hSw; clear hSw; go_simp; try with_reducible rfl)
        try simp only [Act.put, List.setIfInBounds_toArray, List.set_cons_zero, List.set_cons_succ]
        refine wpAnyH_take (i := 4) (oi := { dst := some 81, op := Op.move (Operand.tmp 80), type := 4, pos := "ref.go:27", after := #[{ on := 3, ground := Ground.data }], guard := none }) (v := ?q56v) rfl (by kernel_rfl) (by kernel_rfl) (by kernel_rfl) (fun _ _ _ h => h) (Or.inl ⟨by rfl, ?q56h⟩) hHeld ?q56r
        case q56h => (intro wq hSw; clear hSw; go_simp; try with_reducible rfl)
        try simp only [Act.put, List.setIfInBounds_toArray, List.set_cons_zero, List.set_cons_succ]
        refine wpAnyH_take (i := 5) (oi := { dst := some 82, op := Op.fieldAddr 28 (Operand.tmp 1) 2, type := 0, pos := "ref.go:27", after := #[{ on := 4, ground := Ground.guard }], guard := some (4, true) }) (v := ?q57v) rfl (by kernel_rfl) (by kernel_rfl) (by kernel_rfl) (fun _ _ _ h => h) (Or.inl ⟨by rfl, ?q57h⟩) hHeld ?q57r
        case q57h => (intro wq hSw; clear hSw; go_simp; try with_reducible rfl)
        try simp only [Act.put, List.setIfInBounds_toArray, List.set_cons_zero, List.set_cons_succ]
        refine wpAnyH_take (i := 6) (oi := { dst := some 83, op := Op.load 3 (Operand.tmp 82), type := 3, pos := "ref.go:27", after := #[{ on := 5, ground := Ground.data }, { on := 4, ground := Ground.guard }], guard := some (4, true) }) (v := .int .i64 t) rfl (by kernel_rfl) (by kernel_rfl) (by kernel_rfl) (fun _ _ _ h => h) (Or.inl ⟨by rfl, ?q58h⟩) hHeld ?q58r
        case q58h => (intro wq hSw; have lq := hSw.at 0 rfl 2 (v := .int .i64 t) rfl; clear hSw; go_simp; try with_reducible rfl)
        try simp only [Act.put, List.setIfInBounds_toArray, List.set_cons_zero, List.set_cons_succ]
        refine wpAnyH_take (i := 7) (oi := { dst := some 84, op := Op.binOp BinOp.leq 3 (Operand.tmp 83) (Operand.const (Value.int IntKind.i64 1073741824)) 3, type := 4, pos := "ref.go:27", after := #[{ on := 6, ground := Ground.data }, { on := 4, ground := Ground.guard }], guard := some (4, true) }) (v := .bool true) rfl (by kernel_rfl) (by kernel_rfl) (by kernel_rfl) (fun _ _ _ h => h) (Or.inl ⟨by rfl, ?q59h⟩) hHeld ?q59r
        case q59h => (intro wq hSw; clear hSw; go_simp; try with_reducible rfl)
        try simp only [Act.put, List.setIfInBounds_toArray, List.set_cons_zero, List.set_cons_succ]
        refine wpAnyH_take (i := 8) (oi := { dst := some 85, op := Op.pick (Operand.tmp 81) (Operand.tmp 84) (Operand.const (Value.bool false)), type := 4, pos := "ref.go:27", after := #[{ on := 4, ground := Ground.data }, { on := 7, ground := Ground.data }], guard := none }) (v := .bool true) rfl (by kernel_rfl) (by kernel_rfl) (by kernel_rfl) (fun _ _ _ h => h) (Or.inl ⟨by rfl, ?q60h⟩) hHeld ?q60r
        case q60h => (intro wq hSw; clear hSw; go_simp; try with_reducible rfl)
        try simp only [Act.put, List.setIfInBounds_toArray, List.set_cons_zero, List.set_cons_succ]
        refine wpAnyH_take (i := 9) (oi := { dst := some 86, op := Op.move (Operand.tmp 85), type := 4, pos := "ref.go:27", after := #[{ on := 8, ground := Ground.data }, { on := 4, ground := Ground.chain }], guard := none }) (v := ?q61v) rfl (by kernel_rfl) (by kernel_rfl) (by kernel_rfl) (fun _ _ _ h => h) (Or.inl ⟨by rfl, ?q61h⟩) hHeld ?q61r
        case q61h => (intro wq hSw; clear hSw; go_simp; try with_reducible rfl)
        try simp only [Act.put, List.setIfInBounds_toArray, List.set_cons_zero, List.set_cons_succ]
        refine wpAnyH_take (i := 10) (oi := { dst := some 87, op := Op.fieldAddr 28 (Operand.tmp 1) 3, type := 0, pos := "ref.go:27", after := #[{ on := 9, ground := Ground.guard }, { on := 14, ground := Ground.gcOnly Departure.lateStores }], guard := some (9, true) }) (v := ?q62v) rfl (by kernel_rfl) (by kernel_rfl) (by kernel_rfl) (fun _ _ _ h => h) (Or.inl ⟨by rfl, ?q62h⟩) hHeld ?q62r
        case q62h => (intro wq hSw; clear hSw; go_simp; try with_reducible rfl)
        try simp only [Act.put, List.setIfInBounds_toArray, List.set_cons_zero, List.set_cons_succ]
        refine wpAnyH_take (i := 11) (oi := { dst := some 88, op := Op.load 3 (Operand.tmp 87), type := 3, pos := "ref.go:27", after := #[{ on := 10, ground := Ground.data }, { on := 9, ground := Ground.guard }, { on := 14, ground := Ground.gcOnly Departure.lateStores }], guard := some (9, true) }) (v := .int .i64 p) rfl (by kernel_rfl) (by kernel_rfl) (by kernel_rfl) (fun _ _ _ h => h) (Or.inl ⟨by rfl, ?q63h⟩) hHeld ?q63r
        case q63h => (intro wq hSw; have lq := hSw.at 0 rfl 3 (v := .int .i64 p) rfl; clear hSw; go_simp; try with_reducible rfl)
        try simp only [Act.put, List.setIfInBounds_toArray, List.set_cons_zero, List.set_cons_succ]
        refine wpAnyH_take (i := 12) (oi := { dst := some 89, op := Op.binOp BinOp.gtr 3 (Operand.tmp 88) (Operand.const (Value.int IntKind.i64 0)) 3, type := 4, pos := "ref.go:27", after := #[{ on := 11, ground := Ground.data }, { on := 9, ground := Ground.guard }, { on := 14, ground := Ground.gcOnly Departure.lateStores }], guard := some (9, true) }) (v := .bool true) rfl (by kernel_rfl) (by kernel_rfl) (by kernel_rfl) (fun _ _ _ h => h) (Or.inl ⟨by rfl, ?q64h⟩) hHeld ?q64r
        case q64h => (intro wq hSw; clear hSw; go_simp; try with_reducible rfl)
        try simp only [Act.put, List.setIfInBounds_toArray, List.set_cons_zero, List.set_cons_succ]
        refine wpAnyH_take (i := 13) (oi := { dst := some 90, op := Op.pick (Operand.tmp 86) (Operand.tmp 89) (Operand.const (Value.bool false)), type := 4, pos := "ref.go:27", after := #[{ on := 9, ground := Ground.data }, { on := 12, ground := Ground.data }, { on := 14, ground := Ground.gcOnly Departure.lateStores }], guard := none }) (v := .bool true) rfl (by kernel_rfl) (by kernel_rfl) (by kernel_rfl) (fun _ _ _ h => h) (Or.inl ⟨by rfl, ?q65h⟩) hHeld ?q65r
        case q65h => (intro wq hSw; clear hSw; go_simp; try with_reducible rfl)
        try simp only [Act.put, List.setIfInBounds_toArray, List.set_cons_zero, List.set_cons_succ]
        refine wpAnyH_ready (rs := [14]) (by kernel_rfl) (by simp) ?_
        refine AllReadyH.cons (o := { dst := none, op := Op.store 28 (Operand.tmp 2) (Operand.tmp 77), type := 0, pos := "ref.go:27", after := #[{ on := 0, ground := Ground.data }, { on := 9, ground := Ground.chain }, { on := 0, ground := Ground.phase }, { on := 1, ground := Ground.textOnly Departure.lateStores }, { on := 2, ground := Ground.textOnly Departure.lateStores }, { on := 3, ground := Ground.textOnly Departure.lateStores }, { on := 4, ground := Ground.textOnly Departure.lateStores }, { on := 5, ground := Ground.textOnly Departure.lateStores }, { on := 6, ground := Ground.textOnly Departure.lateStores }, { on := 7, ground := Ground.textOnly Departure.lateStores }, { on := 8, ground := Ground.textOnly Departure.lateStores }, { on := 9, ground := Ground.textOnly Departure.lateStores }, { on := 10, ground := Ground.textOnly Departure.lateStores }, { on := 11, ground := Ground.textOnly Departure.lateStores }, { on := 12, ground := Ground.textOnly Departure.lateStores }, { on := 13, ground := Ground.textOnly Departure.lateStores }], guard := none }) rfl (fun K hK => ?_) (AllReadyH.nil)
        rw [if_pos (by rfl)]
        refine wp_store_ob 28 (.tmp 2) (.tmp 77) B1 (enCells ⟨l, 3, t, p, 0, 0, chNil, emptyS⟩) (enCells enNil) 28 rfl rfl rfl rfl (((HS5.out).drew).get 1 rfl) (info_en) (rfl) ((oneCell_en _)) ?_
        have HS6 : Hid (Hp w [.ob (w.heap.size) 28 (enCells ⟨l, 3, t, p, g, r, c, s⟩), .ob B1 28 (enCells ⟨l, 3, t, p, 0, 0, chNil, emptyS⟩), .ob B2 28 (enCells ⟨l, 3, t, p, 0, 0, chNil, emptyS⟩)] (w6.drew.setRow B1 (enCells ⟨l, 3, t, p, 0, 0, chNil, emptyS⟩).toArray)) := ((HS5.out).drew).row 1 rfl (enCells ⟨l, 3, t, p, 0, 0, chNil, emptyS⟩)
        refine hK.out _ _ (HS6.out.pick [0, 2] rfl) (fun hHeld => ?_)
        clear hK K
        generalize (w6.drew.setRow B1 (enCells ⟨l, 3, t, p, 0, 0, chNil, emptyS⟩).toArray) = w7 at *
        try simp only [Act.put, List.setIfInBounds_toArray, List.set_cons_zero, List.set_cons_succ]
        refine wpAnyH_take (i := 15) (oi := { dst := some 3, op := Op.assign (Operand.tmp 90), type := 4, pos := "ref.go:27", after := #[{ on := 13, ground := Ground.data }, { on := 14, ground := Ground.chain }, { on := 0, ground := Ground.phase }, { on := 1, ground := Ground.phase }, { on := 2, ground := Ground.phase }, { on := 3, ground := Ground.phase }, { on := 4, ground := Ground.phase }, { on := 5, ground := Ground.phase }, { on := 6, ground := Ground.phase }, { on := 7, ground := Ground.phase }, { on := 8, ground := Ground.phase }, { on := 9, ground := Ground.phase }, { on := 10, ground := Ground.phase }, { on := 11, ground := Ground.phase }, { on := 12, ground := Ground.phase }, { on := 13, ground := Ground.phase }, { on := 14, ground := Ground.phase }], guard := none }) (v := ?q66v) rfl (by kernel_rfl) (by kernel_rfl) (by kernel_rfl) (fun _ _ _ h => h) (Or.inl ⟨by rfl, ?q66h⟩) hHeld ?q66r
        case q66h => (intro wq hSw; clear hSw; go_simp; try with_reducible rfl)
        try simp only [Act.put, List.setIfInBounds_toArray, List.set_cons_zero, List.set_cons_succ]
        refine wpAnyH_done (by kernel_rfl) ?_ _
        go_wp2_with fail
        refine bodyPost_ret (results_ob_tmp Try.results32 _ _ B1 (enCells ⟨l, 3, t, p, 0, 0, chNil, emptyS⟩) 28 _ rfl ((HS6.out).get 1 rfl) HUE.out rfl info_en) rfl ?_
        exact ShPost.mk rfl (by show (isTxB t && posB p) = _; simp [isTxB, posB]; omega) (HS6.out).old
set_option maxHeartbeats 8000000 in
theorem shape_k4 (l t p g r : Int) (c : Chg) (s : ByteArray) (w : World) (hc : GoodCh c) (hs : s.size ≤ maxLen) : Calls Try.prog 32 #[.agg (enCells ⟨l, 4, t, p, g, r, c, s⟩).toArray] w (ShPost ⟨l, 4, t, p, g, r, c, s⟩ w) := by
  have HC := Lib.hid hc
  have HBl := Lib.hid hs
  obtain ⟨fsHUE, huHUE⟩ := under_en
  have HUE := Lib.hid huHUE
  clear huHUE
  obtain ⟨fsHUC, huHUC⟩ := under_ch
  have HUC := Lib.hid huHUC
  clear huHUC
  have h1 := ((Hp.start w).put 28 (enCells ⟨l, 4, t, p, g, r, c, s⟩)).put 28 (enCells enNil)
  simp only [List.nil_append, List.cons_append, World.size_alloc] at h1
  have HS0 : Hid (Hp w [.ob w.heap.size 28 (enCells ⟨l, 4, t, p, g, r, c, s⟩), .ob (w.heap.size + 1) 28 (enCells enNil)] ((w.alloc (.cells (enCells ⟨l, 4, t, p, g, r, c, s⟩).toArray 28)).alloc (.cells #[.int .i64 0, .int .i64 0, .int .i64 0, .int .i64 0, .int .i64 0, .int .i64 0, .int .i64 0, .int .i64 0, .bool false, .string ⟨#[]⟩, .bool false, .string ⟨#[]⟩, .string ⟨#[]⟩] 28))) := h1
  clear h1 hc hs
  go_enter Try.func32, Try.ntmps32
  go_upto_region 1 with (fail)
  have HS2 : Hid (Hp w [.ob (w.heap.size) 28 (enCells ⟨l, 4, t, p, g, r, c, s⟩), .ob ((w.heap.size + 1)) 28 (enCells enNil)] ((w.alloc (.cells (enCells ⟨l, 4, t, p, g, r, c, s⟩).toArray 28)).alloc (.cells #[.int .i64 0, .int .i64 0, .int .i64 0, .int .i64 0, .int .i64 0, .int .i64 0, .int .i64 0, .int .i64 0, .bool false, .string ⟨#[]⟩, .bool false, .string ⟨#[]⟩, .string ⟨#[]⟩] 28))) := HS0.out
  clear HS0
  generalize (w.alloc (.cells (enCells ⟨l, 4, t, p, g, r, c, s⟩).toArray 28)).alloc (.cells #[.int .i64 0, .int .i64 0, .int .i64 0, .int .i64 0, .int .i64 0, .int .i64 0, .int .i64 0, .int .i64 0, .bool false, .string ⟨#[]⟩, .bool false, .string ⟨#[]⟩, .string ⟨#[]⟩] 28) = w3 at *
  generalize (w.heap.size + 1) = B1 at *
  have c0 : w3.cell? ⟨(w.heap.size), 0, none⟩ = some (.int .i64 l) := (HS2.out).at 0 rfl 0 rfl
  have c1 : w3.cell? ⟨(w.heap.size), 1, none⟩ = some (.int .i64 4) := (HS2.out).at 0 rfl 1 rfl
  go_upto_region 2 with (first | ((with_reducible refine wpList_build_v (d := some 10) 28 (.agg (enCells ⟨l, 4, 0, 0, 0, 0, chNil, emptyS⟩).toArray) ?_ ?_); (intro W; simp only [List.map_toArray, List.map_cons, List.map_nil]; exact build_two l 4 W); simp only [Act.put, List.setIfInBounds_toArray, List.set_cons_zero, List.set_cons_succ]) | ((with_reducible refine wpList_alloc_ob 28 (enCells enNil) ?_ ?_); (exact alloc_en); simp only [Act.put, List.setIfInBounds_toArray, List.set_cons_zero, List.set_cons_succ]) | ((with_reducible refine wpList_store_ob 28 (.tmp 4) (w3.heap.size) (enCells ⟨l, 4, 0, 0, 0, 0, chNil, emptyS⟩) (enCells enNil) 28 ?_ ?_ ?_ ?_ ?_ ?_ ?_); (exact rfl); (exact rfl); (exact ((HS2.out).put 28 (enCells enNil)).get 2 rfl); (exact info_en); (exact rfl); (exact (oneCell_en _)); skip))
  have HS3 : Hid (Hp w [.ob (w.heap.size) 28 (enCells ⟨l, 4, t, p, g, r, c, s⟩), .ob B1 28 (enCells enNil), .ob (w3.heap.size) 28 (enCells ⟨l, 4, 0, 0, 0, 0, chNil, emptyS⟩)] ((w3.alloc (.cells (enCells enNil).toArray 28)).setRow (w3.heap.size) (enCells ⟨l, 4, 0, 0, 0, 0, chNil, emptyS⟩).toArray)) := ((HS2.out).put 28 (enCells enNil)).row 2 rfl (enCells ⟨l, 4, 0, 0, 0, 0, chNil, emptyS⟩)
  clear HS2
  generalize ((w3.alloc (.cells (enCells enNil).toArray 28)).setRow (w3.heap.size) (enCells ⟨l, 4, 0, 0, 0, 0, chNil, emptyS⟩).toArray) = w4 at *
  generalize w3.heap.size = B2 at *
  clear c0 c1
  have c1 : w4.cell? ⟨(w.heap.size), 1, none⟩ = some (.int .i64 4) := (HS3.out).at 0 rfl 1 rfl
  go_upto_region 14 with (fail)
  clear c1
  refine wp_region_held_drew (S := fun w' => Hold w.heap.size [.ob (w.heap.size) 28 (enCells ⟨l, 4, t, p, g, r, c, s⟩)] w') (by kernel_rfl) ((HS3.out).drew.pick [0] rfl) (fun hHeld => ?_)
  refine wpAnyH_take (i := 0) (oi := { dst := some 71, op := Op.fieldAddr 28 (Operand.tmp 1) 2, type := 0, pos := "ref.go:26", after := #[], guard := none }) (v := ?q1v) rfl (by kernel_rfl) (by kernel_rfl) (by kernel_rfl) (fun _ _ _ h => h) (Or.inl ⟨by rfl, ?q1h⟩) hHeld ?q1r
  case q1h => (intro wq hSw; clear hSw; go_simp; try with_reducible rfl)
  try simp only [Act.put, List.setIfInBounds_toArray, List.set_cons_zero, List.set_cons_succ]
  refine wpAnyH_take (i := 1) (oi := { dst := some 72, op := Op.load 3 (Operand.tmp 71), type := 3, pos := "ref.go:26", after := #[{ on := 0, ground := Ground.data }], guard := none }) (v := .int .i64 t) rfl (by kernel_rfl) (by kernel_rfl) (by kernel_rfl) (fun _ _ _ h => h) (Or.inl ⟨by rfl, ?q2h⟩) hHeld ?q2r
  case q2h => (intro wq hSw; have lq := hSw.at 0 rfl 2 (v := .int .i64 t) rfl; clear hSw; go_simp; try with_reducible rfl)
  try simp only [Act.put, List.setIfInBounds_toArray, List.set_cons_zero, List.set_cons_succ]
  refine wpAnyH_take (i := 2) (oi := { dst := some 73, op := Op.fieldAddr 28 (Operand.tmp 1) 3, type := 0, pos := "ref.go:26", after := #[{ on := 5, ground := Ground.gcOnly Departure.lateStores }], guard := none }) (v := ?q3v) rfl (by kernel_rfl) (by kernel_rfl) (by kernel_rfl) (fun _ _ _ h => h) (Or.inl ⟨by rfl, ?q3h⟩) hHeld ?q3r
  case q3h => (intro wq hSw; clear hSw; go_simp; try with_reducible rfl)
  try simp only [Act.put, List.setIfInBounds_toArray, List.set_cons_zero, List.set_cons_succ]
  refine wpAnyH_take (i := 3) (oi := { dst := some 74, op := Op.load 3 (Operand.tmp 73), type := 3, pos := "ref.go:26", after := #[{ on := 2, ground := Ground.data }, { on := 5, ground := Ground.gcOnly Departure.lateStores }], guard := none }) (v := .int .i64 p) rfl (by kernel_rfl) (by kernel_rfl) (by kernel_rfl) (fun _ _ _ h => h) (Or.inl ⟨by rfl, ?q4h⟩) hHeld ?q4r
  case q4h => (intro wq hSw; have lq := hSw.at 0 rfl 3 (v := .int .i64 p) rfl; clear hSw; go_simp; try with_reducible rfl)
  try simp only [Act.put, List.setIfInBounds_toArray, List.set_cons_zero, List.set_cons_succ]
  refine wpAnyH_take (i := 4) (oi := { dst := some 75, op := Op.fieldAddr 28 (Operand.tmp 4) 2, type := 0, pos := "ref.go:26", after := #[{ on := 0, ground := Ground.phase }, { on := 1, ground := Ground.phase }, { on := 2, ground := Ground.textOnly Departure.lateStores }, { on := 3, ground := Ground.textOnly Departure.lateStores }], guard := none }) (v := ?q5v) rfl (by kernel_rfl) (by kernel_rfl) (by kernel_rfl) (fun _ _ _ h => h) (Or.inl ⟨by rfl, ?q5h⟩) hHeld ?q5r
  case q5h => (intro wq hSw; clear hSw; go_simp; try with_reducible rfl)
  try simp only [Act.put, List.setIfInBounds_toArray, List.set_cons_zero, List.set_cons_succ]
  refine wpAnyH_ready (rs := [5]) (by kernel_rfl) (by simp) ?_
  refine AllReadyH.cons (o := { dst := none, op := Op.store 3 (Operand.tmp 75) (Operand.tmp 72), type := 0, pos := "ref.go:26", after := #[{ on := 4, ground := Ground.data }, { on := 1, ground := Ground.data }, { on := 0, ground := Ground.phase }, { on := 1, ground := Ground.phase }, { on := 2, ground := Ground.textOnly Departure.lateStores }, { on := 3, ground := Ground.textOnly Departure.lateStores }], guard := none }) rfl (fun K hK => ?_) (AllReadyH.nil)
  rw [if_pos (by rfl)]
  refine wp_store_fld 3 (.tmp 75) (.tmp 72) B2 2 (.int .i64 t) ([.int .i64 t]) (enCells ⟨l, 4, 0, 0, 0, 0, chNil, emptyS⟩) (enCells ⟨l, 4, t, 0, 0, 0, chNil, emptyS⟩) 28 rfl rfl rfl rfl rfl (((HS3.out).drew).get 2 rfl) (Nat.le_of_ble_eq_true rfl) (info_int1) ((one_int _ _)) rfl ?_
  have HS4 : Hid (Hp w [.ob (w.heap.size) 28 (enCells ⟨l, 4, t, p, g, r, c, s⟩), .ob B1 28 (enCells enNil), .ob B2 28 (enCells ⟨l, 4, t, 0, 0, 0, chNil, emptyS⟩)] (w4.drew.setRow B2 (enCells ⟨l, 4, t, 0, 0, 0, chNil, emptyS⟩).toArray)) := ((HS3.out).drew).row 2 rfl (enCells ⟨l, 4, t, 0, 0, 0, chNil, emptyS⟩)
  refine hK.out _ _ (HS4.out.pick [0] rfl) (fun hHeld => ?_)
  clear hK K
  generalize (w4.drew.setRow B2 (enCells ⟨l, 4, t, 0, 0, 0, chNil, emptyS⟩).toArray) = w5 at *
  try simp only [Act.put, List.setIfInBounds_toArray, List.set_cons_zero, List.set_cons_succ]
  refine wpAnyH_take (i := 6) (oi := { dst := some 76, op := Op.fieldAddr 28 (Operand.tmp 4) 3, type := 0, pos := "ref.go:26", after := #[{ on := 0, ground := Ground.phase }, { on := 1, ground := Ground.phase }, { on := 2, ground := Ground.phase }, { on := 3, ground := Ground.phase }, { on := 4, ground := Ground.phase }, { on := 5, ground := Ground.phase }], guard := none }) (v := ?q6v) rfl (by kernel_rfl) (by kernel_rfl) (by kernel_rfl) (fun _ _ _ h => h) (Or.inl ⟨by rfl, ?q6h⟩) hHeld ?q6r
  case q6h => (intro wq hSw; clear hSw; go_simp; try with_reducible rfl)
  try simp only [Act.put, List.setIfInBounds_toArray, List.set_cons_zero, List.set_cons_succ]
  refine wpAnyH_ready (rs := [7]) (by kernel_rfl) (by simp) ?_
  refine AllReadyH.cons (o := { dst := none, op := Op.store 3 (Operand.tmp 76) (Operand.tmp 74), type := 0, pos := "ref.go:26", after := #[{ on := 6, ground := Ground.data }, { on := 3, ground := Ground.data }, { on := 5, ground := Ground.chain }, { on := 0, ground := Ground.phase }, { on := 1, ground := Ground.phase }, { on := 2, ground := Ground.phase }, { on := 3, ground := Ground.phase }, { on := 4, ground := Ground.phase }, { on := 5, ground := Ground.phase }], guard := none }) rfl (fun K hK => ?_) (AllReadyH.nil)
  rw [if_pos (by rfl)]
  refine wp_store_fld 3 (.tmp 76) (.tmp 74) B2 3 (.int .i64 p) ([.int .i64 p]) (enCells ⟨l, 4, t, 0, 0, 0, chNil, emptyS⟩) (enCells ⟨l, 4, t, p, 0, 0, chNil, emptyS⟩) 28 rfl rfl rfl rfl rfl ((HS4.out).get 2 rfl) (Nat.le_of_ble_eq_true rfl) (info_int1) ((one_int _ _)) rfl ?_
  have HS5 : Hid (Hp w [.ob (w.heap.size) 28 (enCells ⟨l, 4, t, p, g, r, c, s⟩), .ob B1 28 (enCells enNil), .ob B2 28 (enCells ⟨l, 4, t, p, 0, 0, chNil, emptyS⟩)] (w5.setRow B2 (enCells ⟨l, 4, t, p, 0, 0, chNil, emptyS⟩).toArray)) := (HS4.out).row 2 rfl (enCells ⟨l, 4, t, p, 0, 0, chNil, emptyS⟩)
  refine hK.out _ _ (HS5.out.pick [0] rfl) (fun hHeld => ?_)
  clear hK K
  generalize (w5.setRow B2 (enCells ⟨l, 4, t, p, 0, 0, chNil, emptyS⟩).toArray) = w6 at *
  try simp only [Act.put, List.setIfInBounds_toArray, List.set_cons_zero, List.set_cons_succ]
  refine wpAnyH_done (by kernel_rfl) ?_ _
  by_cases t1 : 1 ≤ t
  case neg =>
    go_upto_region 15 with (fail)
    refine wp_region_held_drew (S := fun w' => Hold w.heap.size [.ob (w.heap.size) 28 (enCells ⟨l, 4, t, p, g, r, c, s⟩), .ob B2 28 (enCells ⟨l, 4, t, p, 0, 0, chNil, emptyS⟩)] w') (by kernel_rfl) ((HS5.out).drew.pick [0, 2] rfl) (fun hHeld => ?_)
    refine wpAnyH_take (i := 0) (oi := { dst := some 77, op := Op.load 28 (Operand.tmp 4), type := 28, pos := "ref.go:27", after := #[], guard := none }) rfl (by kernel_rfl) (by kernel_rfl) (by kernel_rfl) (fun _ _ _ h => h) (yieldsIf_load_mid (by rfl) 28 (.tmp 4) rfl B2 0 rfl (enCells ⟨l, 4, t, p, 0, 0, chNil, emptyS⟩) _ (fun _ h => h.whole 1 rfl) HUE.out rfl (info_en)) hHeld ?_
    try simp only [Act.put, List.setIfInBounds_toArray, List.set_cons_zero, List.set_cons_succ]
    refine wpAnyH_take (i := 1) (oi := { dst := some 78, op := Op.fieldAddr 28 (Operand.tmp 1) 2, type := 0, pos := "ref.go:27", after := #[], guard := none }) (v := ?q8v) rfl (by kernel_rfl) (by kernel_rfl) (by kernel_rfl) (fun _ _ _ h => h) (Or.inl ⟨by rfl, ?q8h⟩) hHeld ?q8r
    case q8h => (intro wq hSw; clear hSw; go_simp; try with_reducible rfl)
    try simp only [Act.put, List.setIfInBounds_toArray, List.set_cons_zero, List.set_cons_succ]
    refine wpAnyH_take (i := 2) (oi := { dst := some 79, op := Op.load 3 (Operand.tmp 78), type := 3, pos := "ref.go:27", after := #[{ on := 1, ground := Ground.data }], guard := none }) (v := .int .i64 t) rfl (by kernel_rfl) (by kernel_rfl) (by kernel_rfl) (fun _ _ _ h => h) (Or.inl ⟨by rfl, ?q9h⟩) hHeld ?q9r
    case q9h => (intro wq hSw; have lq := hSw.at 0 rfl 2 (v := .int .i64 t) rfl; clear hSw; go_simp; try with_reducible rfl)
    try simp only [Act.put, List.setIfInBounds_toArray, List.set_cons_zero, List.set_cons_succ]
    refine wpAnyH_take (i := 3) (oi := { dst := some 80, op := Op.binOp BinOp.geq 3 (Operand.tmp 79) (Operand.const (Value.int IntKind.i64 1)) 3, type := 4, pos := "ref.go:27", after := #[{ on := 2, ground := Ground.data }], guard := none }) (v := .bool false) rfl (by kernel_rfl) (by kernel_rfl) (by kernel_rfl) (fun _ _ _ h => h) (Or.inl ⟨by rfl, ?q10h⟩) hHeld ?q10r
    case q10h => (intro wq hSw; clear hSw; go_simp; try with_reducible rfl)
    try simp only [Act.put, List.setIfInBounds_toArray, List.set_cons_zero, List.set_cons_succ]
    refine wpAnyH_take (i := 4) (oi := { dst := some 81, op := Op.move (Operand.tmp 80), type := 4, pos := "ref.go:27", after := #[{ on := 3, ground := Ground.data }], guard := none }) (v := ?q11v) rfl (by kernel_rfl) (by kernel_rfl) (by kernel_rfl) (fun _ _ _ h => h) (Or.inl ⟨by rfl, ?q11h⟩) hHeld ?q11r
    case q11h => (intro wq hSw; clear hSw; go_simp; try with_reducible rfl)
    try simp only [Act.put, List.setIfInBounds_toArray, List.set_cons_zero, List.set_cons_succ]
    refine wpAnyH_take (i := 5) (oi := { dst := some 82, op := Op.fieldAddr 28 (Operand.tmp 1) 2, type := 0, pos := "ref.go:27", after := #[{ on := 4, ground := Ground.guard }], guard := some (4, true) }) (v := undef) rfl (by kernel_rfl) (by kernel_rfl) (by kernel_rfl) (fun _ _ _ h => h) (Or.inr ⟨by rfl, rfl⟩) hHeld ?_
    try simp only [Act.put, List.setIfInBounds_toArray, List.set_cons_zero, List.set_cons_succ]
    refine wpAnyH_take (i := 6) (oi := { dst := some 83, op := Op.load 3 (Operand.tmp 82), type := 3, pos := "ref.go:27", after := #[{ on := 5, ground := Ground.data }, { on := 4, ground := Ground.guard }], guard := some (4, true) }) (v := undef) rfl (by kernel_rfl) (by kernel_rfl) (by kernel_rfl) (fun _ _ _ h => h) (Or.inr ⟨by rfl, rfl⟩) hHeld ?_
    try simp only [Act.put, List.setIfInBounds_toArray, List.set_cons_zero, List.set_cons_succ]
    refine wpAnyH_take (i := 7) (oi := { dst := some 84, op := Op.binOp BinOp.leq 3 (Operand.tmp 83) (Operand.const (Value.int IntKind.i64 1073741824)) 3, type := 4, pos := "ref.go:27", after := #[{ on := 6, ground := Ground.data }, { on := 4, ground := Ground.guard }], guard := some (4, true) }) (v := undef) rfl (by kernel_rfl) (by kernel_rfl) (by kernel_rfl) (fun _ _ _ h => h) (Or.inr ⟨by rfl, rfl⟩) hHeld ?_
    try simp only [Act.put, List.setIfInBounds_toArray, List.set_cons_zero, List.set_cons_succ]
    refine wpAnyH_take (i := 8) (oi := { dst := some 85, op := Op.pick (Operand.tmp 81) (Operand.tmp 84) (Operand.const (Value.bool false)), type := 4, pos := "ref.go:27", after := #[{ on := 4, ground := Ground.data }, { on := 7, ground := Ground.data }], guard := none }) (v := .bool false) rfl (by kernel_rfl) (by kernel_rfl) (by kernel_rfl) (fun _ _ _ h => h) (Or.inl ⟨by rfl, ?q15h⟩) hHeld ?q15r
    case q15h => (intro wq hSw; clear hSw; go_simp; try with_reducible rfl)
    try simp only [Act.put, List.setIfInBounds_toArray, List.set_cons_zero, List.set_cons_succ]
    refine wpAnyH_take (i := 9) (oi := { dst := some 86, op := Op.move (Operand.tmp 85), type := 4, pos := "ref.go:27", after := #[{ on := 8, ground := Ground.data }, { on := 4, ground := Ground.chain }], guard := none }) (v := ?q16v) rfl (by kernel_rfl) (by kernel_rfl) (by kernel_rfl) (fun _ _ _ h => h) (Or.inl ⟨by rfl, ?q16h⟩) hHeld ?q16r
    case q16h => (intro wq hSw; clear hSw; go_simp; try with_reducible rfl)
    try simp only [Act.put, List.setIfInBounds_toArray, List.set_cons_zero, List.set_cons_succ]
    refine wpAnyH_take (i := 10) (oi := { dst := some 87, op := Op.fieldAddr 28 (Operand.tmp 1) 3, type := 0, pos := "ref.go:27", after := #[{ on := 9, ground := Ground.guard }, { on := 14, ground := Ground.gcOnly Departure.lateStores }], guard := some (9, true) }) (v := undef) rfl (by kernel_rfl) (by kernel_rfl) (by kernel_rfl) (fun _ _ _ h => h) (Or.inr ⟨by rfl, rfl⟩) hHeld ?_
    try simp only [Act.put, List.setIfInBounds_toArray, List.set_cons_zero, List.set_cons_succ]
    refine wpAnyH_take (i := 11) (oi := { dst := some 88, op := Op.load 3 (Operand.tmp 87), type := 3, pos := "ref.go:27", after := #[{ on := 10, ground := Ground.data }, { on := 9, ground := Ground.guard }, { on := 14, ground := Ground.gcOnly Departure.lateStores }], guard := some (9, true) }) (v := undef) rfl (by kernel_rfl) (by kernel_rfl) (by kernel_rfl) (fun _ _ _ h => h) (Or.inr ⟨by rfl, rfl⟩) hHeld ?_
    try simp only [Act.put, List.setIfInBounds_toArray, List.set_cons_zero, List.set_cons_succ]
    refine wpAnyH_take (i := 12) (oi := { dst := some 89, op := Op.binOp BinOp.gtr 3 (Operand.tmp 88) (Operand.const (Value.int IntKind.i64 0)) 3, type := 4, pos := "ref.go:27", after := #[{ on := 11, ground := Ground.data }, { on := 9, ground := Ground.guard }, { on := 14, ground := Ground.gcOnly Departure.lateStores }], guard := some (9, true) }) (v := undef) rfl (by kernel_rfl) (by kernel_rfl) (by kernel_rfl) (fun _ _ _ h => h) (Or.inr ⟨by rfl, rfl⟩) hHeld ?_
    try simp only [Act.put, List.setIfInBounds_toArray, List.set_cons_zero, List.set_cons_succ]
    refine wpAnyH_take (i := 13) (oi := { dst := some 90, op := Op.pick (Operand.tmp 86) (Operand.tmp 89) (Operand.const (Value.bool false)), type := 4, pos := "ref.go:27", after := #[{ on := 9, ground := Ground.data }, { on := 12, ground := Ground.data }, { on := 14, ground := Ground.gcOnly Departure.lateStores }], guard := none }) (v := .bool false) rfl (by kernel_rfl) (by kernel_rfl) (by kernel_rfl) (fun _ _ _ h => h) (Or.inl ⟨by rfl, ?q20h⟩) hHeld ?q20r
    case q20h => (intro wq hSw; clear hSw; go_simp; try with_reducible rfl)
    try simp only [Act.put, List.setIfInBounds_toArray, List.set_cons_zero, List.set_cons_succ]
    refine wpAnyH_ready (rs := [14]) (by kernel_rfl) (by simp) ?_
    refine AllReadyH.cons (o := { dst := none, op := Op.store 28 (Operand.tmp 2) (Operand.tmp 77), type := 0, pos := "ref.go:27", after := #[{ on := 0, ground := Ground.data }, { on := 9, ground := Ground.chain }, { on := 0, ground := Ground.phase }, { on := 1, ground := Ground.textOnly Departure.lateStores }, { on := 2, ground := Ground.textOnly Departure.lateStores }, { on := 3, ground := Ground.textOnly Departure.lateStores }, { on := 4, ground := Ground.textOnly Departure.lateStores }, { on := 5, ground := Ground.textOnly Departure.lateStores }, { on := 6, ground := Ground.textOnly Departure.lateStores }, { on := 7, ground := Ground.textOnly Departure.lateStores }, { on := 8, ground := Ground.textOnly Departure.lateStores }, { on := 9, ground := Ground.textOnly Departure.lateStores }, { on := 10, ground := Ground.textOnly Departure.lateStores }, { on := 11, ground := Ground.textOnly Departure.lateStores }, { on := 12, ground := Ground.textOnly Departure.lateStores }, { on := 13, ground := Ground.textOnly Departure.lateStores }], guard := none }) rfl (fun K hK => ?_) (AllReadyH.nil)
    rw [if_pos (by rfl)]
    refine wp_store_ob 28 (.tmp 2) (.tmp 77) B1 (enCells ⟨l, 4, t, p, 0, 0, chNil, emptyS⟩) (enCells enNil) 28 rfl rfl rfl rfl (((HS5.out).drew).get 1 rfl) (info_en) (rfl) ((oneCell_en _)) ?_
    have HS6 : Hid (Hp w [.ob (w.heap.size) 28 (enCells ⟨l, 4, t, p, g, r, c, s⟩), .ob B1 28 (enCells ⟨l, 4, t, p, 0, 0, chNil, emptyS⟩), .ob B2 28 (enCells ⟨l, 4, t, p, 0, 0, chNil, emptyS⟩)] (w6.drew.setRow B1 (enCells ⟨l, 4, t, p, 0, 0, chNil, emptyS⟩).toArray)) := ((HS5.out).drew).row 1 rfl (enCells ⟨l, 4, t, p, 0, 0, chNil, emptyS⟩)
    refine hK.out _ _ (HS6.out.pick [0, 2] rfl) (fun hHeld => ?_)
    clear hK K
    generalize (w6.drew.setRow B1 (enCells ⟨l, 4, t, p, 0, 0, chNil, emptyS⟩).toArray) = w7 at *
    try simp only [Act.put, List.setIfInBounds_toArray, List.set_cons_zero, List.set_cons_succ]
    refine wpAnyH_take (i := 15) (oi := { dst := some 3, op := Op.assign (Operand.tmp 90), type := 4, pos := "ref.go:27", after := #[{ on := 13, ground := Ground.data }, { on := 14, ground := Ground.chain }, { on := 0, ground := Ground.phase }, { on := 1, ground := Ground.phase }, { on := 2, ground := Ground.phase }, { on := 3, ground := Ground.phase }, { on := 4, ground := Ground.phase }, { on := 5, ground := Ground.phase }, { on := 6, ground := Ground.phase }, { on := 7, ground := Ground.phase }, { on := 8, ground := Ground.phase }, { on := 9, ground := Ground.phase }, { on := 10, ground := Ground.phase }, { on := 11, ground := Ground.phase }, { on := 12, ground := Ground.phase }, { on := 13, ground := Ground.phase }, { on := 14, ground := Ground.phase }], guard := none }) (v := ?q21v) rfl (by kernel_rfl) (by kernel_rfl) (by kernel_rfl) (fun _ _ _ h => h) (Or.inl ⟨by rfl, ?q21h⟩) hHeld ?q21r
    case q21h => (intro wq hSw; clear hSw; go_simp; try with_reducible rfl)
    try simp only [Act.put, List.setIfInBounds_toArray, List.set_cons_zero, List.set_cons_succ]
    refine wpAnyH_done (by kernel_rfl) ?_ _
    go_wp2_with fail
    refine bodyPost_ret (results_ob_tmp Try.results32 _ _ B1 (enCells ⟨l, 4, t, p, 0, 0, chNil, emptyS⟩) 28 _ rfl ((HS6.out).get 1 rfl) HUE.out rfl info_en) rfl ?_
    exact ShPost.mk rfl (by show (isTxB t && posB p) = _; simp [isTxB, posB]; omega) (HS6.out).old
  case pos =>
    by_cases t2 : t ≤ 1073741824
    case neg =>
      go_upto_region 15 with (fail)
      refine wp_region_held_drew (S := fun w' => Hold w.heap.size [.ob (w.heap.size) 28 (enCells ⟨l, 4, t, p, g, r, c, s⟩), .ob B2 28 (enCells ⟨l, 4, t, p, 0, 0, chNil, emptyS⟩)] w') (by kernel_rfl) ((HS5.out).drew.pick [0, 2] rfl) (fun hHeld => ?_)
      refine wpAnyH_take (i := 0) (oi := { dst := some 77, op := Op.load 28 (Operand.tmp 4), type := 28, pos := "ref.go:27", after := #[], guard := none }) rfl (by kernel_rfl) (by kernel_rfl) (by kernel_rfl) (fun _ _ _ h => h) (yieldsIf_load_mid (by rfl) 28 (.tmp 4) rfl B2 0 rfl (enCells ⟨l, 4, t, p, 0, 0, chNil, emptyS⟩) _ (fun _ h => h.whole 1 rfl) HUE.out rfl (info_en)) hHeld ?_
      try simp only [Act.put, List.setIfInBounds_toArray, List.set_cons_zero, List.set_cons_succ]
      refine wpAnyH_take (i := 1) (oi := { dst := some 78, op := Op.fieldAddr 28 (Operand.tmp 1) 2, type := 0, pos := "ref.go:27", after := #[], guard := none }) (v := ?q23v) rfl (by kernel_rfl) (by kernel_rfl) (by kernel_rfl) (fun _ _ _ h => h) (Or.inl ⟨by rfl, ?q23h⟩) hHeld ?q23r
      case q23h => (intro wq hSw; clear hSw; go_simp; try with_reducible rfl)
      try simp only [Act.put, List.setIfInBounds_toArray, List.set_cons_zero, List.set_cons_succ]
      refine wpAnyH_take (i := 2) (oi := { dst := some 79, op := Op.load 3 (Operand.tmp 78), type := 3, pos := "ref.go:27", after := #[{ on := 1, ground := Ground.data }], guard := none }) (v := .int .i64 t) rfl (by kernel_rfl) (by kernel_rfl) (by kernel_rfl) (fun _ _ _ h => h) (Or.inl ⟨by rfl, ?q24h⟩) hHeld ?q24r
      case q24h => (intro wq hSw; have lq := hSw.at 0 rfl 2 (v := .int .i64 t) rfl; clear hSw; go_simp; try with_reducible rfl)
      try simp only [Act.put, List.setIfInBounds_toArray, List.set_cons_zero, List.set_cons_succ]
      refine wpAnyH_take (i := 3) (oi := { dst := some 80, op := Op.binOp BinOp.geq 3 (Operand.tmp 79) (Operand.const (Value.int IntKind.i64 1)) 3, type := 4, pos := "ref.go:27", after := #[{ on := 2, ground := Ground.data }], guard := none }) (v := .bool true) rfl (by kernel_rfl) (by kernel_rfl) (by kernel_rfl) (fun _ _ _ h => h) (Or.inl ⟨by rfl, ?q25h⟩) hHeld ?q25r
      case q25h => (intro wq hSw; clear hSw; go_simp; try with_reducible rfl)
      try simp only [Act.put, List.setIfInBounds_toArray, List.set_cons_zero, List.set_cons_succ]
      refine wpAnyH_take (i := 4) (oi := { dst := some 81, op := Op.move (Operand.tmp 80), type := 4, pos := "ref.go:27", after := #[{ on := 3, ground := Ground.data }], guard := none }) (v := ?q26v) rfl (by kernel_rfl) (by kernel_rfl) (by kernel_rfl) (fun _ _ _ h => h) (Or.inl ⟨by rfl, ?q26h⟩) hHeld ?q26r
      case q26h => (intro wq hSw; clear hSw; go_simp; try with_reducible rfl)
      try simp only [Act.put, List.setIfInBounds_toArray, List.set_cons_zero, List.set_cons_succ]
      refine wpAnyH_take (i := 5) (oi := { dst := some 82, op := Op.fieldAddr 28 (Operand.tmp 1) 2, type := 0, pos := "ref.go:27", after := #[{ on := 4, ground := Ground.guard }], guard := some (4, true) }) (v := ?q27v) rfl (by kernel_rfl) (by kernel_rfl) (by kernel_rfl) (fun _ _ _ h => h) (Or.inl ⟨by rfl, ?q27h⟩) hHeld ?q27r
      case q27h => (intro wq hSw; clear hSw; go_simp; try with_reducible rfl)
      try simp only [Act.put, List.setIfInBounds_toArray, List.set_cons_zero, List.set_cons_succ]
      refine wpAnyH_take (i := 6) (oi := { dst := some 83, op := Op.load 3 (Operand.tmp 82), type := 3, pos := "ref.go:27", after := #[{ on := 5, ground := Ground.data }, { on := 4, ground := Ground.guard }], guard := some (4, true) }) (v := .int .i64 t) rfl (by kernel_rfl) (by kernel_rfl) (by kernel_rfl) (fun _ _ _ h => h) (Or.inl ⟨by rfl, ?q28h⟩) hHeld ?q28r
      case q28h => (intro wq hSw; have lq := hSw.at 0 rfl 2 (v := .int .i64 t) rfl; clear hSw; go_simp; try with_reducible rfl)
      try simp only [Act.put, List.setIfInBounds_toArray, List.set_cons_zero, List.set_cons_succ]
      refine wpAnyH_take (i := 7) (oi := { dst := some 84, op := Op.binOp BinOp.leq 3 (Operand.tmp 83) (Operand.const (Value.int IntKind.i64 1073741824)) 3, type := 4, pos := "ref.go:27", after := #[{ on := 6, ground := Ground.data }, { on := 4, ground := Ground.guard }], guard := some (4, true) }) (v := .bool false) rfl (by kernel_rfl) (by kernel_rfl) (by kernel_rfl) (fun _ _ _ h => h) (Or.inl ⟨by rfl, ?q29h⟩) hHeld ?q29r
      case q29h => (intro wq hSw; clear hSw; go_simp; try with_reducible rfl)
      try simp only [Act.put, List.setIfInBounds_toArray, List.set_cons_zero, List.set_cons_succ]
      refine wpAnyH_take (i := 8) (oi := { dst := some 85, op := Op.pick (Operand.tmp 81) (Operand.tmp 84) (Operand.const (Value.bool false)), type := 4, pos := "ref.go:27", after := #[{ on := 4, ground := Ground.data }, { on := 7, ground := Ground.data }], guard := none }) (v := .bool false) rfl (by kernel_rfl) (by kernel_rfl) (by kernel_rfl) (fun _ _ _ h => h) (Or.inl ⟨by rfl, ?q30h⟩) hHeld ?q30r
      case q30h => (intro wq hSw; clear hSw; go_simp; try with_reducible rfl)
      try simp only [Act.put, List.setIfInBounds_toArray, List.set_cons_zero, List.set_cons_succ]
      refine wpAnyH_take (i := 9) (oi := { dst := some 86, op := Op.move (Operand.tmp 85), type := 4, pos := "ref.go:27", after := #[{ on := 8, ground := Ground.data }, { on := 4, ground := Ground.chain }], guard := none }) (v := ?q31v) rfl (by kernel_rfl) (by kernel_rfl) (by kernel_rfl) (fun _ _ _ h => h) (Or.inl ⟨by rfl, ?q31h⟩) hHeld ?q31r
      case q31h => (intro wq hSw; clear hSw; go_simp; try with_reducible rfl)
      try simp only [Act.put, List.setIfInBounds_toArray, List.set_cons_zero, List.set_cons_succ]
      refine wpAnyH_take (i := 10) (oi := { dst := some 87, op := Op.fieldAddr 28 (Operand.tmp 1) 3, type := 0, pos := "ref.go:27", after := #[{ on := 9, ground := Ground.guard }, { on := 14, ground := Ground.gcOnly Departure.lateStores }], guard := some (9, true) }) (v := undef) rfl (by kernel_rfl) (by kernel_rfl) (by kernel_rfl) (fun _ _ _ h => h) (Or.inr ⟨by rfl, rfl⟩) hHeld ?_
      try simp only [Act.put, List.setIfInBounds_toArray, List.set_cons_zero, List.set_cons_succ]
      refine wpAnyH_take (i := 11) (oi := { dst := some 88, op := Op.load 3 (Operand.tmp 87), type := 3, pos := "ref.go:27", after := #[{ on := 10, ground := Ground.data }, { on := 9, ground := Ground.guard }, { on := 14, ground := Ground.gcOnly Departure.lateStores }], guard := some (9, true) }) (v := undef) rfl (by kernel_rfl) (by kernel_rfl) (by kernel_rfl) (fun _ _ _ h => h) (Or.inr ⟨by rfl, rfl⟩) hHeld ?_
      try simp only [Act.put, List.setIfInBounds_toArray, List.set_cons_zero, List.set_cons_succ]
      refine wpAnyH_take (i := 12) (oi := { dst := some 89, op := Op.binOp BinOp.gtr 3 (Operand.tmp 88) (Operand.const (Value.int IntKind.i64 0)) 3, type := 4, pos := "ref.go:27", after := #[{ on := 11, ground := Ground.data }, { on := 9, ground := Ground.guard }, { on := 14, ground := Ground.gcOnly Departure.lateStores }], guard := some (9, true) }) (v := undef) rfl (by kernel_rfl) (by kernel_rfl) (by kernel_rfl) (fun _ _ _ h => h) (Or.inr ⟨by rfl, rfl⟩) hHeld ?_
      try simp only [Act.put, List.setIfInBounds_toArray, List.set_cons_zero, List.set_cons_succ]
      refine wpAnyH_take (i := 13) (oi := { dst := some 90, op := Op.pick (Operand.tmp 86) (Operand.tmp 89) (Operand.const (Value.bool false)), type := 4, pos := "ref.go:27", after := #[{ on := 9, ground := Ground.data }, { on := 12, ground := Ground.data }, { on := 14, ground := Ground.gcOnly Departure.lateStores }], guard := none }) (v := .bool false) rfl (by kernel_rfl) (by kernel_rfl) (by kernel_rfl) (fun _ _ _ h => h) (Or.inl ⟨by rfl, ?q35h⟩) hHeld ?q35r
      case q35h => (intro wq hSw; clear hSw; go_simp; try with_reducible rfl)
      try simp only [Act.put, List.setIfInBounds_toArray, List.set_cons_zero, List.set_cons_succ]
      refine wpAnyH_ready (rs := [14]) (by kernel_rfl) (by simp) ?_
      refine AllReadyH.cons (o := { dst := none, op := Op.store 28 (Operand.tmp 2) (Operand.tmp 77), type := 0, pos := "ref.go:27", after := #[{ on := 0, ground := Ground.data }, { on := 9, ground := Ground.chain }, { on := 0, ground := Ground.phase }, { on := 1, ground := Ground.textOnly Departure.lateStores }, { on := 2, ground := Ground.textOnly Departure.lateStores }, { on := 3, ground := Ground.textOnly Departure.lateStores }, { on := 4, ground := Ground.textOnly Departure.lateStores }, { on := 5, ground := Ground.textOnly Departure.lateStores }, { on := 6, ground := Ground.textOnly Departure.lateStores }, { on := 7, ground := Ground.textOnly Departure.lateStores }, { on := 8, ground := Ground.textOnly Departure.lateStores }, { on := 9, ground := Ground.textOnly Departure.lateStores }, { on := 10, ground := Ground.textOnly Departure.lateStores }, { on := 11, ground := Ground.textOnly Departure.lateStores }, { on := 12, ground := Ground.textOnly Departure.lateStores }, { on := 13, ground := Ground.textOnly Departure.lateStores }], guard := none }) rfl (fun K hK => ?_) (AllReadyH.nil)
      rw [if_pos (by rfl)]
      refine wp_store_ob 28 (.tmp 2) (.tmp 77) B1 (enCells ⟨l, 4, t, p, 0, 0, chNil, emptyS⟩) (enCells enNil) 28 rfl rfl rfl rfl (((HS5.out).drew).get 1 rfl) (info_en) (rfl) ((oneCell_en _)) ?_
      have HS6 : Hid (Hp w [.ob (w.heap.size) 28 (enCells ⟨l, 4, t, p, g, r, c, s⟩), .ob B1 28 (enCells ⟨l, 4, t, p, 0, 0, chNil, emptyS⟩), .ob B2 28 (enCells ⟨l, 4, t, p, 0, 0, chNil, emptyS⟩)] (w6.drew.setRow B1 (enCells ⟨l, 4, t, p, 0, 0, chNil, emptyS⟩).toArray)) := ((HS5.out).drew).row 1 rfl (enCells ⟨l, 4, t, p, 0, 0, chNil, emptyS⟩)
      refine hK.out _ _ (HS6.out.pick [0, 2] rfl) (fun hHeld => ?_)
      clear hK K
      generalize (w6.drew.setRow B1 (enCells ⟨l, 4, t, p, 0, 0, chNil, emptyS⟩).toArray) = w7 at *
      try simp only [Act.put, List.setIfInBounds_toArray, List.set_cons_zero, List.set_cons_succ]
      refine wpAnyH_take (i := 15) (oi := { dst := some 3, op := Op.assign (Operand.tmp 90), type := 4, pos := "ref.go:27", after := #[{ on := 13, ground := Ground.data }, { on := 14, ground := Ground.chain }, { on := 0, ground := Ground.phase }, { on := 1, ground := Ground.phase }, { on := 2, ground := Ground.phase }, { on := 3, ground := Ground.phase }, { on := 4, ground := Ground.phase }, { on := 5, ground := Ground.phase }, { on := 6, ground := Ground.phase }, { on := 7, ground := Ground.phase }, { on := 8, ground := Ground.phase }, { on := 9, ground := Ground.phase }, { on := 10, ground := Ground.phase }, { on := 11, ground := Ground.phase }, { on := 12, ground := Ground.phase }, { on := 13, ground := Ground.phase }, { on := 14, ground := Ground.phase }], guard := none }) (v := ?q36v) rfl (by kernel_rfl) (by kernel_rfl) (by kernel_rfl) (fun _ _ _ h => h) (Or.inl ⟨by rfl, ?q36h⟩) hHeld ?q36r
      case q36h => (intro wq hSw; clear hSw; go_simp; try with_reducible rfl)
      try simp only [Act.put, List.setIfInBounds_toArray, List.set_cons_zero, List.set_cons_succ]
      refine wpAnyH_done (by kernel_rfl) ?_ _
      go_wp2_with fail
      refine bodyPost_ret (results_ob_tmp Try.results32 _ _ B1 (enCells ⟨l, 4, t, p, 0, 0, chNil, emptyS⟩) 28 _ rfl ((HS6.out).get 1 rfl) HUE.out rfl info_en) rfl ?_
      exact ShPost.mk rfl (by show (isTxB t && posB p) = _; simp [isTxB, posB]; omega) (HS6.out).old
    case pos =>
      by_cases p1 : 0 < p
      case neg =>
        go_upto_region 15 with (fail)
        refine wp_region_held_drew (S := fun w' => Hold w.heap.size [.ob (w.heap.size) 28 (enCells ⟨l, 4, t, p, g, r, c, s⟩), .ob B2 28 (enCells ⟨l, 4, t, p, 0, 0, chNil, emptyS⟩)] w') (by kernel_rfl) ((HS5.out).drew.pick [0, 2] rfl) (fun hHeld => ?_)
        refine wpAnyH_take (i := 0) (oi := { dst := some 77, op := Op.load 28 (Operand.tmp 4), type := 28, pos := "ref.go:27", after := #[], guard := none }) rfl (by kernel_rfl) (by kernel_rfl) (by kernel_rfl) (fun _ _ _ h => h) (yieldsIf_load_mid (by rfl) 28 (.tmp 4) rfl B2 0 rfl (enCells ⟨l, 4, t, p, 0, 0, chNil, emptyS⟩) _ (fun _ h => h.whole 1 rfl) HUE.out rfl (info_en)) hHeld ?_
        try simp only [Act.put, List.setIfInBounds_toArray, List.set_cons_zero, List.set_cons_succ]
        refine wpAnyH_take (i := 1) (oi := { dst := some 78, op := Op.fieldAddr 28 (Operand.tmp 1) 2, type := 0, pos := "ref.go:27", after := #[], guard := none }) (v := ?q38v) rfl (by kernel_rfl) (by kernel_rfl) (by kernel_rfl) (fun _ _ _ h => h) (Or.inl ⟨by rfl, ?q38h⟩) hHeld ?q38r
        case q38h => (intro wq hSw; clear hSw; go_simp; try with_reducible rfl)
        try simp only [Act.put, List.setIfInBounds_toArray, List.set_cons_zero, List.set_cons_succ]
        refine wpAnyH_take (i := 2) (oi := { dst := some 79, op := Op.load 3 (Operand.tmp 78), type := 3, pos := "ref.go:27", after := #[{ on := 1, ground := Ground.data }], guard := none }) (v := .int .i64 t) rfl (by kernel_rfl) (by kernel_rfl) (by kernel_rfl) (fun _ _ _ h => h) (Or.inl ⟨by rfl, ?q39h⟩) hHeld ?q39r
        case q39h => (intro wq hSw; have lq := hSw.at 0 rfl 2 (v := .int .i64 t) rfl; clear hSw; go_simp; try with_reducible rfl)
        try simp only [Act.put, List.setIfInBounds_toArray, List.set_cons_zero, List.set_cons_succ]
        refine wpAnyH_take (i := 3) (oi := { dst := some 80, op := Op.binOp BinOp.geq 3 (Operand.tmp 79) (Operand.const (Value.int IntKind.i64 1)) 3, type := 4, pos := "ref.go:27", after := #[{ on := 2, ground := Ground.data }], guard := none }) (v := .bool true) rfl (by kernel_rfl) (by kernel_rfl) (by kernel_rfl) (fun _ _ _ h => h) (Or.inl ⟨by rfl, ?q40h⟩) hHeld ?q40r
        case q40h => (intro wq hSw; clear hSw; go_simp; try with_reducible rfl)
        try simp only [Act.put, List.setIfInBounds_toArray, List.set_cons_zero, List.set_cons_succ]
        refine wpAnyH_take (i := 4) (oi := { dst := some 81, op := Op.move (Operand.tmp 80), type := 4, pos := "ref.go:27", after := #[{ on := 3, ground := Ground.data }], guard := none }) (v := ?q41v) rfl (by kernel_rfl) (by kernel_rfl) (by kernel_rfl) (fun _ _ _ h => h) (Or.inl ⟨by rfl, ?q41h⟩) hHeld ?q41r
        case q41h => (intro wq hSw; clear hSw; go_simp; try with_reducible rfl)
        try simp only [Act.put, List.setIfInBounds_toArray, List.set_cons_zero, List.set_cons_succ]
        refine wpAnyH_take (i := 5) (oi := { dst := some 82, op := Op.fieldAddr 28 (Operand.tmp 1) 2, type := 0, pos := "ref.go:27", after := #[{ on := 4, ground := Ground.guard }], guard := some (4, true) }) (v := ?q42v) rfl (by kernel_rfl) (by kernel_rfl) (by kernel_rfl) (fun _ _ _ h => h) (Or.inl ⟨by rfl, ?q42h⟩) hHeld ?q42r
        case q42h => (intro wq hSw; clear hSw; go_simp; try with_reducible rfl)
        try simp only [Act.put, List.setIfInBounds_toArray, List.set_cons_zero, List.set_cons_succ]
        refine wpAnyH_take (i := 6) (oi := { dst := some 83, op := Op.load 3 (Operand.tmp 82), type := 3, pos := "ref.go:27", after := #[{ on := 5, ground := Ground.data }, { on := 4, ground := Ground.guard }], guard := some (4, true) }) (v := .int .i64 t) rfl (by kernel_rfl) (by kernel_rfl) (by kernel_rfl) (fun _ _ _ h => h) (Or.inl ⟨by rfl, ?q43h⟩) hHeld ?q43r
        case q43h => (intro wq hSw; have lq := hSw.at 0 rfl 2 (v := .int .i64 t) rfl; clear hSw; go_simp; try with_reducible rfl)
        try simp only [Act.put, List.setIfInBounds_toArray, List.set_cons_zero, List.set_cons_succ]
        refine wpAnyH_take (i := 7) (oi := { dst := some 84, op := Op.binOp BinOp.leq 3 (Operand.tmp 83) (Operand.const (Value.int IntKind.i64 1073741824)) 3, type := 4, pos := "ref.go:27", after := #[{ on := 6, ground := Ground.data }, { on := 4, ground := Ground.guard }], guard := some (4, true) }) (v := .bool true) rfl (by kernel_rfl) (by kernel_rfl) (by kernel_rfl) (fun _ _ _ h => h) (Or.inl ⟨by rfl, ?q44h⟩) hHeld ?q44r
        case q44h => (intro wq hSw; clear hSw; go_simp; try with_reducible rfl)
        try simp only [Act.put, List.setIfInBounds_toArray, List.set_cons_zero, List.set_cons_succ]
        refine wpAnyH_take (i := 8) (oi := { dst := some 85, op := Op.pick (Operand.tmp 81) (Operand.tmp 84) (Operand.const (Value.bool false)), type := 4, pos := "ref.go:27", after := #[{ on := 4, ground := Ground.data }, { on := 7, ground := Ground.data }], guard := none }) (v := .bool true) rfl (by kernel_rfl) (by kernel_rfl) (by kernel_rfl) (fun _ _ _ h => h) (Or.inl ⟨by rfl, ?q45h⟩) hHeld ?q45r
        case q45h => (intro wq hSw; clear hSw; go_simp; try with_reducible rfl)
        try simp only [Act.put, List.setIfInBounds_toArray, List.set_cons_zero, List.set_cons_succ]
        refine wpAnyH_take (i := 9) (oi := { dst := some 86, op := Op.move (Operand.tmp 85), type := 4, pos := "ref.go:27", after := #[{ on := 8, ground := Ground.data }, { on := 4, ground := Ground.chain }], guard := none }) (v := ?q46v) rfl (by kernel_rfl) (by kernel_rfl) (by kernel_rfl) (fun _ _ _ h => h) (Or.inl ⟨by rfl, ?q46h⟩) hHeld ?q46r
        case q46h => (intro wq hSw; clear hSw; go_simp; try with_reducible rfl)
        try simp only [Act.put, List.setIfInBounds_toArray, List.set_cons_zero, List.set_cons_succ]
        refine wpAnyH_take (i := 10) (oi := { dst := some 87, op := Op.fieldAddr 28 (Operand.tmp 1) 3, type := 0, pos := "ref.go:27", after := #[{ on := 9, ground := Ground.guard }, { on := 14, ground := Ground.gcOnly Departure.lateStores }], guard := some (9, true) }) (v := ?q47v) rfl (by kernel_rfl) (by kernel_rfl) (by kernel_rfl) (fun _ _ _ h => h) (Or.inl ⟨by rfl, ?q47h⟩) hHeld ?q47r
        case q47h => (intro wq hSw; clear hSw; go_simp; try with_reducible rfl)
        try simp only [Act.put, List.setIfInBounds_toArray, List.set_cons_zero, List.set_cons_succ]
        refine wpAnyH_take (i := 11) (oi := { dst := some 88, op := Op.load 3 (Operand.tmp 87), type := 3, pos := "ref.go:27", after := #[{ on := 10, ground := Ground.data }, { on := 9, ground := Ground.guard }, { on := 14, ground := Ground.gcOnly Departure.lateStores }], guard := some (9, true) }) (v := .int .i64 p) rfl (by kernel_rfl) (by kernel_rfl) (by kernel_rfl) (fun _ _ _ h => h) (Or.inl ⟨by rfl, ?q48h⟩) hHeld ?q48r
        case q48h => (intro wq hSw; have lq := hSw.at 0 rfl 3 (v := .int .i64 p) rfl; clear hSw; go_simp; try with_reducible rfl)
        try simp only [Act.put, List.setIfInBounds_toArray, List.set_cons_zero, List.set_cons_succ]
        refine wpAnyH_take (i := 12) (oi := { dst := some 89, op := Op.binOp BinOp.gtr 3 (Operand.tmp 88) (Operand.const (Value.int IntKind.i64 0)) 3, type := 4, pos := "ref.go:27", after := #[{ on := 11, ground := Ground.data }, { on := 9, ground := Ground.guard }, { on := 14, ground := Ground.gcOnly Departure.lateStores }], guard := some (9, true) }) (v := .bool false) rfl (by kernel_rfl) (by kernel_rfl) (by kernel_rfl) (fun _ _ _ h => h) (Or.inl ⟨by rfl, ?q49h⟩) hHeld ?q49r
        case q49h => (intro wq hSw; clear hSw; go_simp; try with_reducible rfl)
        try simp only [Act.put, List.setIfInBounds_toArray, List.set_cons_zero, List.set_cons_succ]
        refine wpAnyH_take (i := 13) (oi := { dst := some 90, op := Op.pick (Operand.tmp 86) (Operand.tmp 89) (Operand.const (Value.bool false)), type := 4, pos := "ref.go:27", after := #[{ on := 9, ground := Ground.data }, { on := 12, ground := Ground.data }, { on := 14, ground := Ground.gcOnly Departure.lateStores }], guard := none }) (v := .bool false) rfl (by kernel_rfl) (by kernel_rfl) (by kernel_rfl) (fun _ _ _ h => h) (Or.inl ⟨by rfl, ?q50h⟩) hHeld ?q50r
        case q50h => (intro wq hSw; clear hSw; go_simp; try with_reducible rfl)
        try simp only [Act.put, List.setIfInBounds_toArray, List.set_cons_zero, List.set_cons_succ]
        refine wpAnyH_ready (rs := [14]) (by kernel_rfl) (by simp) ?_
        refine AllReadyH.cons (o := { dst := none, op := Op.store 28 (Operand.tmp 2) (Operand.tmp 77), type := 0, pos := "ref.go:27", after := #[{ on := 0, ground := Ground.data }, { on := 9, ground := Ground.chain }, { on := 0, ground := Ground.phase }, { on := 1, ground := Ground.textOnly Departure.lateStores }, { on := 2, ground := Ground.textOnly Departure.lateStores }, { on := 3, ground := Ground.textOnly Departure.lateStores }, { on := 4, ground := Ground.textOnly Departure.lateStores }, { on := 5, ground := Ground.textOnly Departure.lateStores }, { on := 6, ground := Ground.textOnly Departure.lateStores }, { on := 7, ground := Ground.textOnly Departure.lateStores }, { on := 8, ground := Ground.textOnly Departure.lateStores }, { on := 9, ground := Ground.textOnly Departure.lateStores }, { on := 10, ground := Ground.textOnly Departure.lateStores }, { on := 11, ground := Ground.textOnly Departure.lateStores }, { on := 12, ground := Ground.textOnly Departure.lateStores }, { on := 13, ground := Ground.textOnly Departure.lateStores }], guard := none }) rfl (fun K hK => ?_) (AllReadyH.nil)
        rw [if_pos (by rfl)]
        refine wp_store_ob 28 (.tmp 2) (.tmp 77) B1 (enCells ⟨l, 4, t, p, 0, 0, chNil, emptyS⟩) (enCells enNil) 28 rfl rfl rfl rfl (((HS5.out).drew).get 1 rfl) (info_en) (rfl) ((oneCell_en _)) ?_
        have HS6 : Hid (Hp w [.ob (w.heap.size) 28 (enCells ⟨l, 4, t, p, g, r, c, s⟩), .ob B1 28 (enCells ⟨l, 4, t, p, 0, 0, chNil, emptyS⟩), .ob B2 28 (enCells ⟨l, 4, t, p, 0, 0, chNil, emptyS⟩)] (w6.drew.setRow B1 (enCells ⟨l, 4, t, p, 0, 0, chNil, emptyS⟩).toArray)) := ((HS5.out).drew).row 1 rfl (enCells ⟨l, 4, t, p, 0, 0, chNil, emptyS⟩)
        refine hK.out _ _ (HS6.out.pick [0, 2] rfl) (fun hHeld => ?_)
        clear hK K
        generalize (w6.drew.setRow B1 (enCells ⟨l, 4, t, p, 0, 0, chNil, emptyS⟩).toArray) = w7 at *
        try simp only [Act.put, List.setIfInBounds_toArray, List.set_cons_zero, List.set_cons_succ]
        refine wpAnyH_take (i := 15) (oi := { dst := some 3, op := Op.assign (Operand.tmp 90), type := 4, pos := "ref.go:27", after := #[{ on := 13, ground := Ground.data }, { on := 14, ground := Ground.chain }, { on := 0, ground := Ground.phase }, { on := 1, ground := Ground.phase }, { on := 2, ground := Ground.phase }, { on := 3, ground := Ground.phase }, { on := 4, ground := Ground.phase }, { on := 5, ground := Ground.phase }, { on := 6, ground := Ground.phase }, { on := 7, ground := Ground.phase }, { on := 8, ground := Ground.phase }, { on := 9, ground := Ground.phase }, { on := 10, ground := Ground.phase }, { on := 11, ground := Ground.phase }, { on := 12, ground := Ground.phase }, { on := 13, ground := Ground.phase }, { on := 14, ground := Ground.phase }], guard := none }) (v := ?q51v) rfl (by kernel_rfl) (by kernel_rfl) (by kernel_rfl) (fun _ _ _ h => h) (Or.inl ⟨by rfl, ?q51h⟩) hHeld ?q51r
        case q51h => (intro wq hSw; clear hSw; go_simp; try with_reducible rfl)
        try simp only [Act.put, List.setIfInBounds_toArray, List.set_cons_zero, List.set_cons_succ]
        refine wpAnyH_done (by kernel_rfl) ?_ _
        go_wp2_with fail
        refine bodyPost_ret (results_ob_tmp Try.results32 _ _ B1 (enCells ⟨l, 4, t, p, 0, 0, chNil, emptyS⟩) 28 _ rfl ((HS6.out).get 1 rfl) HUE.out rfl info_en) rfl ?_
        exact ShPost.mk rfl (by show (isTxB t && posB p) = _; simp [isTxB, posB]; omega) (HS6.out).old
      case pos =>
        go_upto_region 15 with (fail)
        refine wp_region_held_drew (S := fun w' => Hold w.heap.size [.ob (w.heap.size) 28 (enCells ⟨l, 4, t, p, g, r, c, s⟩), .ob B2 28 (enCells ⟨l, 4, t, p, 0, 0, chNil, emptyS⟩)] w') (by kernel_rfl) ((HS5.out).drew.pick [0, 2] rfl) (fun hHeld => ?_)
        refine wpAnyH_take (i := 0) (oi := { dst := some 77, op := Op.load 28 (Operand.tmp 4), type := 28, pos := "ref.go:27", after := #[], guard := none }) rfl (by kernel_rfl) (by kernel_rfl) (by kernel_rfl) (fun _ _ _ h => h) (yieldsIf_load_mid (by rfl) 28 (.tmp 4) rfl B2 0 rfl (enCells ⟨l, 4, t, p, 0, 0, chNil, emptyS⟩) _ (fun _ h => h.whole 1 rfl) HUE.out rfl (info_en)) hHeld ?_
        try simp only [Act.put, List.setIfInBounds_toArray, List.set_cons_zero, List.set_cons_succ]
        refine wpAnyH_take (i := 1) (oi := { dst := some 78, op := Op.fieldAddr 28 (Operand.tmp 1) 2, type := 0, pos := "ref.go:27", after := #[], guard := none }) (v := ?q53v) rfl (by kernel_rfl) (by kernel_rfl) (by kernel_rfl) (fun _ _ _ h => h) (Or.inl ⟨by rfl, ?q53h⟩) hHeld ?q53r
        case q53h => (intro wq hSw; clear hSw; go_simp; try with_reducible rfl)
        try simp only [Act.put, List.setIfInBounds_toArray, List.set_cons_zero, List.set_cons_succ]
        refine wpAnyH_take (i := 2) (oi := { dst := some 79, op := Op.load 3 (Operand.tmp 78), type := 3, pos := "ref.go:27", after := #[{ on := 1, ground := Ground.data }], guard := none }) (v := .int .i64 t) rfl (by kernel_rfl) (by kernel_rfl) (by kernel_rfl) (fun _ _ _ h => h) (Or.inl ⟨by rfl, ?q54h⟩) hHeld ?q54r
        case q54h => (intro wq hSw; have lq := hSw.at 0 rfl 2 (v := .int .i64 t) rfl; clear hSw; go_simp; try with_reducible rfl)
        try simp only [Act.put, List.setIfInBounds_toArray, List.set_cons_zero, List.set_cons_succ]
        refine wpAnyH_take (i := 3) (oi := { dst := some 80, op := Op.binOp BinOp.geq 3 (Operand.tmp 79) (Operand.const (Value.int IntKind.i64 1)) 3, type := 4, pos := "ref.go:27", after := #[{ on := 2, ground := Ground.data }], guard := none }) (v := .bool true) rfl (by kernel_rfl) (by kernel_rfl) (by kernel_rfl) (fun _ _ _ h => h) (Or.inl ⟨by rfl, ?q55h⟩) hHeld ?q55r
        case q55h => (intro wq hSw; clear hSw; go_simp; try with_reducible rfl)
        try simp only [Act.put, List.setIfInBounds_toArray, List.set_cons_zero, List.set_cons_succ]
        refine wpAnyH_take (i := 4) (oi := { dst := some 81, op := Op.move (Operand.tmp 80), type := 4, pos := "ref.go:27", after := #[{ on := 3, ground := Ground.data }], guard := none }) (v := ?q56v) rfl (by kernel_rfl) (by kernel_rfl) (by kernel_rfl) (fun _ _ _ h => h) (Or.inl ⟨by rfl, ?q56h⟩) hHeld ?q56r
        case q56h => (intro wq hSw; clear hSw; go_simp; try with_reducible rfl)
        try simp only [Act.put, List.setIfInBounds_toArray, List.set_cons_zero, List.set_cons_succ]
        refine wpAnyH_take (i := 5) (oi := { dst := some 82, op := Op.fieldAddr 28 (Operand.tmp 1) 2, type := 0, pos := "ref.go:27", after := #[{ on := 4, ground := Ground.guard }], guard := some (4, true) }) (v := ?q57v) rfl (by kernel_rfl) (by kernel_rfl) (by kernel_rfl) (fun _ _ _ h => h) (Or.inl ⟨by rfl, ?q57h⟩) hHeld ?q57r
        case q57h => (intro wq hSw; clear hSw; go_simp; try with_reducible rfl)
        try simp only [Act.put, List.setIfInBounds_toArray, List.set_cons_zero, List.set_cons_succ]
        refine wpAnyH_take (i := 6) (oi := { dst := some 83, op := Op.load 3 (Operand.tmp 82), type := 3, pos := "ref.go:27", after := #[{ on := 5, ground := Ground.data }, { on := 4, ground := Ground.guard }], guard := some (4, true) }) (v := .int .i64 t) rfl (by kernel_rfl) (by kernel_rfl) (by kernel_rfl) (fun _ _ _ h => h) (Or.inl ⟨by rfl, ?q58h⟩) hHeld ?q58r
        case q58h => (intro wq hSw; have lq := hSw.at 0 rfl 2 (v := .int .i64 t) rfl; clear hSw; go_simp; try with_reducible rfl)
        try simp only [Act.put, List.setIfInBounds_toArray, List.set_cons_zero, List.set_cons_succ]
        refine wpAnyH_take (i := 7) (oi := { dst := some 84, op := Op.binOp BinOp.leq 3 (Operand.tmp 83) (Operand.const (Value.int IntKind.i64 1073741824)) 3, type := 4, pos := "ref.go:27", after := #[{ on := 6, ground := Ground.data }, { on := 4, ground := Ground.guard }], guard := some (4, true) }) (v := .bool true) rfl (by kernel_rfl) (by kernel_rfl) (by kernel_rfl) (fun _ _ _ h => h) (Or.inl ⟨by rfl, ?q59h⟩) hHeld ?q59r
        case q59h => (intro wq hSw; clear hSw; go_simp; try with_reducible rfl)
        try simp only [Act.put, List.setIfInBounds_toArray, List.set_cons_zero, List.set_cons_succ]
        refine wpAnyH_take (i := 8) (oi := { dst := some 85, op := Op.pick (Operand.tmp 81) (Operand.tmp 84) (Operand.const (Value.bool false)), type := 4, pos := "ref.go:27", after := #[{ on := 4, ground := Ground.data }, { on := 7, ground := Ground.data }], guard := none }) (v := .bool true) rfl (by kernel_rfl) (by kernel_rfl) (by kernel_rfl) (fun _ _ _ h => h) (Or.inl ⟨by rfl, ?q60h⟩) hHeld ?q60r
        case q60h => (intro wq hSw; clear hSw; go_simp; try with_reducible rfl)
        try simp only [Act.put, List.setIfInBounds_toArray, List.set_cons_zero, List.set_cons_succ]
        refine wpAnyH_take (i := 9) (oi := { dst := some 86, op := Op.move (Operand.tmp 85), type := 4, pos := "ref.go:27", after := #[{ on := 8, ground := Ground.data }, { on := 4, ground := Ground.chain }], guard := none }) (v := ?q61v) rfl (by kernel_rfl) (by kernel_rfl) (by kernel_rfl) (fun _ _ _ h => h) (Or.inl ⟨by rfl, ?q61h⟩) hHeld ?q61r
        case q61h => (intro wq hSw; clear hSw; go_simp; try with_reducible rfl)
        try simp only [Act.put, List.setIfInBounds_toArray, List.set_cons_zero, List.set_cons_succ]
        refine wpAnyH_take (i := 10) (oi := { dst := some 87, op := Op.fieldAddr 28 (Operand.tmp 1) 3, type := 0, pos := "ref.go:27", after := #[{ on := 9, ground := Ground.guard }, { on := 14, ground := Ground.gcOnly Departure.lateStores }], guard := some (9, true) }) (v := ?q62v) rfl (by kernel_rfl) (by kernel_rfl) (by kernel_rfl) (fun _ _ _ h => h) (Or.inl ⟨by rfl, ?q62h⟩) hHeld ?q62r
        case q62h => (intro wq hSw; clear hSw; go_simp; try with_reducible rfl)
        try simp only [Act.put, List.setIfInBounds_toArray, List.set_cons_zero, List.set_cons_succ]
        refine wpAnyH_take (i := 11) (oi := { dst := some 88, op := Op.load 3 (Operand.tmp 87), type := 3, pos := "ref.go:27", after := #[{ on := 10, ground := Ground.data }, { on := 9, ground := Ground.guard }, { on := 14, ground := Ground.gcOnly Departure.lateStores }], guard := some (9, true) }) (v := .int .i64 p) rfl (by kernel_rfl) (by kernel_rfl) (by kernel_rfl) (fun _ _ _ h => h) (Or.inl ⟨by rfl, ?q63h⟩) hHeld ?q63r
        case q63h => (intro wq hSw; have lq := hSw.at 0 rfl 3 (v := .int .i64 p) rfl; clear hSw; go_simp; try with_reducible rfl)
        try simp only [Act.put, List.setIfInBounds_toArray, List.set_cons_zero, List.set_cons_succ]
        refine wpAnyH_take (i := 12) (oi := { dst := some 89, op := Op.binOp BinOp.gtr 3 (Operand.tmp 88) (Operand.const (Value.int IntKind.i64 0)) 3, type := 4, pos := "ref.go:27", after := #[{ on := 11, ground := Ground.data }, { on := 9, ground := Ground.guard }, { on := 14, ground := Ground.gcOnly Departure.lateStores }], guard := some (9, true) }) (v := .bool true) rfl (by kernel_rfl) (by kernel_rfl) (by kernel_rfl) (fun _ _ _ h => h) (Or.inl ⟨by rfl, ?q64h⟩) hHeld ?q64r
        case q64h => (intro wq hSw; clear hSw; go_simp; try with_reducible rfl)
        try simp only [Act.put, List.setIfInBounds_toArray, List.set_cons_zero, List.set_cons_succ]
        refine wpAnyH_take (i := 13) (oi := { dst := some 90, op := Op.pick (Operand.tmp 86) (Operand.tmp 89) (Operand.const (Value.bool false)), type := 4, pos := "ref.go:27", after := #[{ on := 9, ground := Ground.data }, { on := 12, ground := Ground.data }, { on := 14, ground := Ground.gcOnly Departure.lateStores }], guard := none }) (v := .bool true) rfl (by kernel_rfl) (by kernel_rfl) (by kernel_rfl) (fun _ _ _ h => h) (Or.inl ⟨by rfl, ?q65h⟩) hHeld ?q65r
        case q65h => (intro wq hSw; clear hSw; go_simp; try with_reducible rfl)
        try simp only [Act.put, List.setIfInBounds_toArray, List.set_cons_zero, List.set_cons_succ]
        refine wpAnyH_ready (rs := [14]) (by kernel_rfl) (by simp) ?_
        refine AllReadyH.cons (o := { dst := none, op := Op.store 28 (Operand.tmp 2) (Operand.tmp 77), type := 0, pos := "ref.go:27", after := #[{ on := 0, ground := Ground.data }, { on := 9, ground := Ground.chain }, { on := 0, ground := Ground.phase }, { on := 1, ground := Ground.textOnly Departure.lateStores }, { on := 2, ground := Ground.textOnly Departure.lateStores }, { on := 3, ground := Ground.textOnly Departure.lateStores }, { on := 4, ground := Ground.textOnly Departure.lateStores }, { on := 5, ground := Ground.textOnly Departure.lateStores }, { on := 6, ground := Ground.textOnly Departure.lateStores }, { on := 7, ground := Ground.textOnly Departure.lateStores }, { on := 8, ground := Ground.textOnly Departure.lateStores }, { on := 9, ground := Ground.textOnly Departure.lateStores }, { on := 10, ground := Ground.textOnly Departure.lateStores }, { on := 11, ground := Ground.textOnly Departure.lateStores }, { on := 12, ground := Ground.textOnly Departure.lateStores }, { on := 13, ground := Ground.textOnly Departure.lateStores }], guard := none }) rfl (fun K hK => ?_) (AllReadyH.nil)
        rw [if_pos (by rfl)]
        refine wp_store_ob 28 (.tmp 2) (.tmp 77) B1 (enCells ⟨l, 4, t, p, 0, 0, chNil, emptyS⟩) (enCells enNil) 28 rfl rfl rfl rfl (((HS5.out).drew).get 1 rfl) (info_en) (rfl) ((oneCell_en _)) ?_
        have HS6 : Hid (Hp w [.ob (w.heap.size) 28 (enCells ⟨l, 4, t, p, g, r, c, s⟩), .ob B1 28 (enCells ⟨l, 4, t, p, 0, 0, chNil, emptyS⟩), .ob B2 28 (enCells ⟨l, 4, t, p, 0, 0, chNil, emptyS⟩)] (w6.drew.setRow B1 (enCells ⟨l, 4, t, p, 0, 0, chNil, emptyS⟩).toArray)) := ((HS5.out).drew).row 1 rfl (enCells ⟨l, 4, t, p, 0, 0, chNil, emptyS⟩)
        refine hK.out _ _ (HS6.out.pick [0, 2] rfl) (fun hHeld => ?_)
        clear hK K
        generalize (w6.drew.setRow B1 (enCells ⟨l, 4, t, p, 0, 0, chNil, emptyS⟩).toArray) = w7 at *
        try simp only [Act.put, List.setIfInBounds_toArray, List.set_cons_zero, List.set_cons_succ]
        refine wpAnyH_take (i := 15) (oi := { dst := some 3, op := Op.assign (Operand.tmp 90), type := 4, pos := "ref.go:27", after := #[{ on := 13, ground := Ground.data }, { on := 14, ground := Ground.chain }, { on := 0, ground := Ground.phase }, { on := 1, ground := Ground.phase }, { on := 2, ground := Ground.phase }, { on := 3, ground := Ground.phase }, { on := 4, ground := Ground.phase }, { on := 5, ground := Ground.phase }, { on := 6, ground := Ground.phase }, { on := 7, ground := Ground.phase }, { on := 8, ground := Ground.phase }, { on := 9, ground := Ground.phase }, { on := 10, ground := Ground.phase }, { on := 11, ground := Ground.phase }, { on := 12, ground := Ground.phase }, { on := 13, ground := Ground.phase }, { on := 14, ground := Ground.phase }], guard := none }) (v := ?q66v) rfl (by kernel_rfl) (by kernel_rfl) (by kernel_rfl) (fun _ _ _ h => h) (Or.inl ⟨by rfl, ?q66h⟩) hHeld ?q66r
        case q66h => (intro wq hSw; clear hSw; go_simp; try with_reducible rfl)
        try simp only [Act.put, List.setIfInBounds_toArray, List.set_cons_zero, List.set_cons_succ]
        refine wpAnyH_done (by kernel_rfl) ?_ _
        go_wp2_with fail
        refine bodyPost_ret (results_ob_tmp Try.results32 _ _ B1 (enCells ⟨l, 4, t, p, 0, 0, chNil, emptyS⟩) 28 _ rfl ((HS6.out).get 1 rfl) HUE.out rfl info_en) rfl ?_
        exact ShPost.mk rfl (by show (isTxB t && posB p) = _; simp [isTxB, posB]; omega) (HS6.out).old
set_option maxHeartbeats 8000000 in
theorem shape_k5 (l t p g r : Int) (c : Chg) (s : ByteArray) (w : World) (hc : GoodCh c) (hs : s.size ≤ maxLen) : Calls Try.prog 32 #[.agg (enCells ⟨l, 5, t, p, g, r, c, s⟩).toArray] w (ShPost ⟨l, 5, t, p, g, r, c, s⟩ w) := by
  have HC := Lib.hid hc
  have HBl := Lib.hid hs
  obtain ⟨fsHUE, huHUE⟩ := under_en
  have HUE := Lib.hid huHUE
  clear huHUE
  obtain ⟨fsHUC, huHUC⟩ := under_ch
  have HUC := Lib.hid huHUC
  clear huHUC
  have h1 := ((Hp.start w).put 28 (enCells ⟨l, 5, t, p, g, r, c, s⟩)).put 28 (enCells enNil)
  simp only [List.nil_append, List.cons_append, World.size_alloc] at h1
  have HS0 : Hid (Hp w [.ob w.heap.size 28 (enCells ⟨l, 5, t, p, g, r, c, s⟩), .ob (w.heap.size + 1) 28 (enCells enNil)] ((w.alloc (.cells (enCells ⟨l, 5, t, p, g, r, c, s⟩).toArray 28)).alloc (.cells #[.int .i64 0, .int .i64 0, .int .i64 0, .int .i64 0, .int .i64 0, .int .i64 0, .int .i64 0, .int .i64 0, .bool false, .string ⟨#[]⟩, .bool false, .string ⟨#[]⟩, .string ⟨#[]⟩] 28))) := h1
  clear h1 hc hs
  go_enter Try.func32, Try.ntmps32
  go_upto_region 1 with (fail)
  have HS2 : Hid (Hp w [.ob (w.heap.size) 28 (enCells ⟨l, 5, t, p, g, r, c, s⟩), .ob ((w.heap.size + 1)) 28 (enCells enNil)] ((w.alloc (.cells (enCells ⟨l, 5, t, p, g, r, c, s⟩).toArray 28)).alloc (.cells #[.int .i64 0, .int .i64 0, .int .i64 0, .int .i64 0, .int .i64 0, .int .i64 0, .int .i64 0, .int .i64 0, .bool false, .string ⟨#[]⟩, .bool false, .string ⟨#[]⟩, .string ⟨#[]⟩] 28))) := HS0.out
  clear HS0
  generalize (w.alloc (.cells (enCells ⟨l, 5, t, p, g, r, c, s⟩).toArray 28)).alloc (.cells #[.int .i64 0, .int .i64 0, .int .i64 0, .int .i64 0, .int .i64 0, .int .i64 0, .int .i64 0, .int .i64 0, .bool false, .string ⟨#[]⟩, .bool false, .string ⟨#[]⟩, .string ⟨#[]⟩] 28) = w3 at *
  generalize (w.heap.size + 1) = B1 at *
  have c0 : w3.cell? ⟨(w.heap.size), 0, none⟩ = some (.int .i64 l) := (HS2.out).at 0 rfl 0 rfl
  have c1 : w3.cell? ⟨(w.heap.size), 1, none⟩ = some (.int .i64 5) := (HS2.out).at 0 rfl 1 rfl
  go_upto_region 2 with (first | ((with_reducible refine wpList_build_v (d := some 10) 28 (.agg (enCells ⟨l, 5, 0, 0, 0, 0, chNil, emptyS⟩).toArray) ?_ ?_); (intro W; simp only [List.map_toArray, List.map_cons, List.map_nil]; exact build_two l 5 W); simp only [Act.put, List.setIfInBounds_toArray, List.set_cons_zero, List.set_cons_succ]) | ((with_reducible refine wpList_alloc_ob 28 (enCells enNil) ?_ ?_); (exact alloc_en); simp only [Act.put, List.setIfInBounds_toArray, List.set_cons_zero, List.set_cons_succ]) | ((with_reducible refine wpList_store_ob 28 (.tmp 4) (w3.heap.size) (enCells ⟨l, 5, 0, 0, 0, 0, chNil, emptyS⟩) (enCells enNil) 28 ?_ ?_ ?_ ?_ ?_ ?_ ?_); (exact rfl); (exact rfl); (exact ((HS2.out).put 28 (enCells enNil)).get 2 rfl); (exact info_en); (exact rfl); (exact (oneCell_en _)); skip))
  have HS3 : Hid (Hp w [.ob (w.heap.size) 28 (enCells ⟨l, 5, t, p, g, r, c, s⟩), .ob B1 28 (enCells enNil), .ob (w3.heap.size) 28 (enCells ⟨l, 5, 0, 0, 0, 0, chNil, emptyS⟩)] ((w3.alloc (.cells (enCells enNil).toArray 28)).setRow (w3.heap.size) (enCells ⟨l, 5, 0, 0, 0, 0, chNil, emptyS⟩).toArray)) := ((HS2.out).put 28 (enCells enNil)).row 2 rfl (enCells ⟨l, 5, 0, 0, 0, 0, chNil, emptyS⟩)
  clear HS2
  generalize ((w3.alloc (.cells (enCells enNil).toArray 28)).setRow (w3.heap.size) (enCells ⟨l, 5, 0, 0, 0, 0, chNil, emptyS⟩).toArray) = w4 at *
  generalize w3.heap.size = B2 at *
  clear c0 c1
  have c1 : w4.cell? ⟨(w.heap.size), 1, none⟩ = some (.int .i64 5) := (HS3.out).at 0 rfl 1 rfl
  go_upto_region 14 with (fail)
  clear c1
  refine wp_region_held_drew (S := fun w' => Hold w.heap.size [.ob (w.heap.size) 28 (enCells ⟨l, 5, t, p, g, r, c, s⟩)] w') (by kernel_rfl) ((HS3.out).drew.pick [0] rfl) (fun hHeld => ?_)
  refine wpAnyH_take (i := 0) (oi := { dst := some 71, op := Op.fieldAddr 28 (Operand.tmp 1) 2, type := 0, pos := "ref.go:26", after := #[], guard := none }) (v := ?q1v) rfl (by kernel_rfl) (by kernel_rfl) (by kernel_rfl) (fun _ _ _ h => h) (Or.inl ⟨by rfl, ?q1h⟩) hHeld ?q1r
  case q1h => (intro wq hSw; clear hSw; go_simp; try with_reducible rfl)
  try simp only [Act.put, List.setIfInBounds_toArray, List.set_cons_zero, List.set_cons_succ]
  refine wpAnyH_take (i := 1) (oi := { dst := some 72, op := Op.load 3 (Operand.tmp 71), type := 3, pos := "ref.go:26", after := #[{ on := 0, ground := Ground.data }], guard := none }) (v := .int .i64 t) rfl (by kernel_rfl) (by kernel_rfl) (by kernel_rfl) (fun _ _ _ h => h) (Or.inl ⟨by rfl, ?q2h⟩) hHeld ?q2r
  case q2h => (intro wq hSw; have lq := hSw.at 0 rfl 2 (v := .int .i64 t) rfl; clear hSw; go_simp; try with_reducible rfl)
  try simp only [Act.put, List.setIfInBounds_toArray, List.set_cons_zero, List.set_cons_succ]
  refine wpAnyH_take (i := 2) (oi := { dst := some 73, op := Op.fieldAddr 28 (Operand.tmp 1) 3, type := 0, pos := "ref.go:26", after := #[{ on := 5, ground := Ground.gcOnly Departure.lateStores }], guard := none }) (v := ?q3v) rfl (by kernel_rfl) (by kernel_rfl) (by kernel_rfl) (fun _ _ _ h => h) (Or.inl ⟨by rfl, ?q3h⟩) hHeld ?q3r
  case q3h => (intro wq hSw; clear hSw; go_simp; try with_reducible rfl)
  try simp only [Act.put, List.setIfInBounds_toArray, List.set_cons_zero, List.set_cons_succ]
  refine wpAnyH_take (i := 3) (oi := { dst := some 74, op := Op.load 3 (Operand.tmp 73), type := 3, pos := "ref.go:26", after := #[{ on := 2, ground := Ground.data }, { on := 5, ground := Ground.gcOnly Departure.lateStores }], guard := none }) (v := .int .i64 p) rfl (by kernel_rfl) (by kernel_rfl) (by kernel_rfl) (fun _ _ _ h => h) (Or.inl ⟨by rfl, ?q4h⟩) hHeld ?q4r
  case q4h => (intro wq hSw; have lq := hSw.at 0 rfl 3 (v := .int .i64 p) rfl; clear hSw; go_simp; try with_reducible rfl)
  try simp only [Act.put, List.setIfInBounds_toArray, List.set_cons_zero, List.set_cons_succ]
  refine wpAnyH_take (i := 4) (oi := { dst := some 75, op := Op.fieldAddr 28 (Operand.tmp 4) 2, type := 0, pos := "ref.go:26", after := #[{ on := 0, ground := Ground.phase }, { on := 1, ground := Ground.phase }, { on := 2, ground := Ground.textOnly Departure.lateStores }, { on := 3, ground := Ground.textOnly Departure.lateStores }], guard := none }) (v := ?q5v) rfl (by kernel_rfl) (by kernel_rfl) (by kernel_rfl) (fun _ _ _ h => h) (Or.inl ⟨by rfl, ?q5h⟩) hHeld ?q5r
  case q5h => (intro wq hSw; clear hSw; go_simp; try with_reducible rfl)
  try simp only [Act.put, List.setIfInBounds_toArray, List.set_cons_zero, List.set_cons_succ]
  refine wpAnyH_ready (rs := [5]) (by kernel_rfl) (by simp) ?_
  refine AllReadyH.cons (o := { dst := none, op := Op.store 3 (Operand.tmp 75) (Operand.tmp 72), type := 0, pos := "ref.go:26", after := #[{ on := 4, ground := Ground.data }, { on := 1, ground := Ground.data }, { on := 0, ground := Ground.phase }, { on := 1, ground := Ground.phase }, { on := 2, ground := Ground.textOnly Departure.lateStores }, { on := 3, ground := Ground.textOnly Departure.lateStores }], guard := none }) rfl (fun K hK => ?_) (AllReadyH.nil)
  rw [if_pos (by rfl)]
  refine wp_store_fld 3 (.tmp 75) (.tmp 72) B2 2 (.int .i64 t) ([.int .i64 t]) (enCells ⟨l, 5, 0, 0, 0, 0, chNil, emptyS⟩) (enCells ⟨l, 5, t, 0, 0, 0, chNil, emptyS⟩) 28 rfl rfl rfl rfl rfl (((HS3.out).drew).get 2 rfl) (Nat.le_of_ble_eq_true rfl) (info_int1) ((one_int _ _)) rfl ?_
  have HS4 : Hid (Hp w [.ob (w.heap.size) 28 (enCells ⟨l, 5, t, p, g, r, c, s⟩), .ob B1 28 (enCells enNil), .ob B2 28 (enCells ⟨l, 5, t, 0, 0, 0, chNil, emptyS⟩)] (w4.drew.setRow B2 (enCells ⟨l, 5, t, 0, 0, 0, chNil, emptyS⟩).toArray)) := ((HS3.out).drew).row 2 rfl (enCells ⟨l, 5, t, 0, 0, 0, chNil, emptyS⟩)
  refine hK.out _ _ (HS4.out.pick [0] rfl) (fun hHeld => ?_)
  clear hK K
  generalize (w4.drew.setRow B2 (enCells ⟨l, 5, t, 0, 0, 0, chNil, emptyS⟩).toArray) = w5 at *
  try simp only [Act.put, List.setIfInBounds_toArray, List.set_cons_zero, List.set_cons_succ]
  refine wpAnyH_take (i := 6) (oi := { dst := some 76, op := Op.fieldAddr 28 (Operand.tmp 4) 3, type := 0, pos := "ref.go:26", after := #[{ on := 0, ground := Ground.phase }, { on := 1, ground := Ground.phase }, { on := 2, ground := Ground.phase }, { on := 3, ground := Ground.phase }, { on := 4, ground := Ground.phase }, { on := 5, ground := Ground.phase }], guard := none }) (v := ?q6v) rfl (by kernel_rfl) (by kernel_rfl) (by kernel_rfl) (fun _ _ _ h => h) (Or.inl ⟨by rfl, ?q6h⟩) hHeld ?q6r
  case q6h => (intro wq hSw; clear hSw; go_simp; try with_reducible rfl)
  try simp only [Act.put, List.setIfInBounds_toArray, List.set_cons_zero, List.set_cons_succ]
  refine wpAnyH_ready (rs := [7]) (by kernel_rfl) (by simp) ?_
  refine AllReadyH.cons (o := { dst := none, op := Op.store 3 (Operand.tmp 76) (Operand.tmp 74), type := 0, pos := "ref.go:26", after := #[{ on := 6, ground := Ground.data }, { on := 3, ground := Ground.data }, { on := 5, ground := Ground.chain }, { on := 0, ground := Ground.phase }, { on := 1, ground := Ground.phase }, { on := 2, ground := Ground.phase }, { on := 3, ground := Ground.phase }, { on := 4, ground := Ground.phase }, { on := 5, ground := Ground.phase }], guard := none }) rfl (fun K hK => ?_) (AllReadyH.nil)
  rw [if_pos (by rfl)]
  refine wp_store_fld 3 (.tmp 76) (.tmp 74) B2 3 (.int .i64 p) ([.int .i64 p]) (enCells ⟨l, 5, t, 0, 0, 0, chNil, emptyS⟩) (enCells ⟨l, 5, t, p, 0, 0, chNil, emptyS⟩) 28 rfl rfl rfl rfl rfl ((HS4.out).get 2 rfl) (Nat.le_of_ble_eq_true rfl) (info_int1) ((one_int _ _)) rfl ?_
  have HS5 : Hid (Hp w [.ob (w.heap.size) 28 (enCells ⟨l, 5, t, p, g, r, c, s⟩), .ob B1 28 (enCells enNil), .ob B2 28 (enCells ⟨l, 5, t, p, 0, 0, chNil, emptyS⟩)] (w5.setRow B2 (enCells ⟨l, 5, t, p, 0, 0, chNil, emptyS⟩).toArray)) := (HS4.out).row 2 rfl (enCells ⟨l, 5, t, p, 0, 0, chNil, emptyS⟩)
  refine hK.out _ _ (HS5.out.pick [0] rfl) (fun hHeld => ?_)
  clear hK K
  generalize (w5.setRow B2 (enCells ⟨l, 5, t, p, 0, 0, chNil, emptyS⟩).toArray) = w6 at *
  try simp only [Act.put, List.setIfInBounds_toArray, List.set_cons_zero, List.set_cons_succ]
  refine wpAnyH_done (by kernel_rfl) ?_ _
  by_cases t1 : 1 ≤ t
  case neg =>
    go_upto_region 15 with (fail)
    refine wp_region_held_drew (S := fun w' => Hold w.heap.size [.ob (w.heap.size) 28 (enCells ⟨l, 5, t, p, g, r, c, s⟩), .ob B2 28 (enCells ⟨l, 5, t, p, 0, 0, chNil, emptyS⟩)] w') (by kernel_rfl) ((HS5.out).drew.pick [0, 2] rfl) (fun hHeld => ?_)
    refine wpAnyH_take (i := 0) (oi := { dst := some 77, op := Op.load 28 (Operand.tmp 4), type := 28, pos := "ref.go:27", after := #[], guard := none }) rfl (by kernel_rfl) (by kernel_rfl) (by kernel_rfl) (fun _ _ _ h => h) (yieldsIf_load_mid (by rfl) 28 (.tmp 4) rfl B2 0 rfl (enCells ⟨l, 5, t, p, 0, 0, chNil, emptyS⟩) _ (fun _ h => h.whole 1 rfl) HUE.out rfl (info_en)) hHeld ?_
    try simp only [Act.put, List.setIfInBounds_toArray, List.set_cons_zero, List.set_cons_succ]
    refine wpAnyH_take (i := 1) (oi := { dst := some 78, op := Op.fieldAddr 28 (Operand.tmp 1) 2, type := 0, pos := "ref.go:27", after := #[], guard := none }) (v := ?q8v) rfl (by kernel_rfl) (by kernel_rfl) (by kernel_rfl) (fun _ _ _ h => h) (Or.inl ⟨by rfl, ?q8h⟩) hHeld ?q8r
    case q8h => (intro wq hSw; clear hSw; go_simp; try with_reducible rfl)
    try simp only [Act.put, List.setIfInBounds_toArray, List.set_cons_zero, List.set_cons_succ]
    refine wpAnyH_take (i := 2) (oi := { dst := some 79, op := Op.load 3 (Operand.tmp 78), type := 3, pos := "ref.go:27", after := #[{ on := 1, ground := Ground.data }], guard := none }) (v := .int .i64 t) rfl (by kernel_rfl) (by kernel_rfl) (by kernel_rfl) (fun _ _ _ h => h) (Or.inl ⟨by rfl, ?q9h⟩) hHeld ?q9r
    case q9h => (intro wq hSw; have lq := hSw.at 0 rfl 2 (v := .int .i64 t) rfl; clear hSw; go_simp; try with_reducible rfl)
    try simp only [Act.put, List.setIfInBounds_toArray, List.set_cons_zero, List.set_cons_succ]
    refine wpAnyH_take (i := 3) (oi := { dst := some 80, op := Op.binOp BinOp.geq 3 (Operand.tmp 79) (Operand.const (Value.int IntKind.i64 1)) 3, type := 4, pos := "ref.go:27", after := #[{ on := 2, ground := Ground.data }], guard := none }) (v := .bool false) rfl (by kernel_rfl) (by kernel_rfl) (by kernel_rfl) (fun _ _ _ h => h) (Or.inl ⟨by rfl, ?q10h⟩) hHeld ?q10r
    case q10h => (intro wq hSw; clear hSw; go_simp; try with_reducible rfl)
    try simp only [Act.put, List.setIfInBounds_toArray, List.set_cons_zero, List.set_cons_succ]
    refine wpAnyH_take (i := 4) (oi := { dst := some 81, op := Op.move (Operand.tmp 80), type := 4, pos := "ref.go:27", after := #[{ on := 3, ground := Ground.data }], guard := none }) (v := ?q11v) rfl (by kernel_rfl) (by kernel_rfl) (by kernel_rfl) (fun _ _ _ h => h) (Or.inl ⟨by rfl, ?q11h⟩) hHeld ?q11r
    case q11h => (intro wq hSw; clear hSw; go_simp; try with_reducible rfl)
    try simp only [Act.put, List.setIfInBounds_toArray, List.set_cons_zero, List.set_cons_succ]
    refine wpAnyH_take (i := 5) (oi := { dst := some 82, op := Op.fieldAddr 28 (Operand.tmp 1) 2, type := 0, pos := "ref.go:27", after := #[{ on := 4, ground := Ground.guard }], guard := some (4, true) }) (v := undef) rfl (by kernel_rfl) (by kernel_rfl) (by kernel_rfl) (fun _ _ _ h => h) (Or.inr ⟨by rfl, rfl⟩) hHeld ?_
    try simp only [Act.put, List.setIfInBounds_toArray, List.set_cons_zero, List.set_cons_succ]
    refine wpAnyH_take (i := 6) (oi := { dst := some 83, op := Op.load 3 (Operand.tmp 82), type := 3, pos := "ref.go:27", after := #[{ on := 5, ground := Ground.data }, { on := 4, ground := Ground.guard }], guard := some (4, true) }) (v := undef) rfl (by kernel_rfl) (by kernel_rfl) (by kernel_rfl) (fun _ _ _ h => h) (Or.inr ⟨by rfl, rfl⟩) hHeld ?_
    try simp only [Act.put, List.setIfInBounds_toArray, List.set_cons_zero, List.set_cons_succ]
    refine wpAnyH_take (i := 7) (oi := { dst := some 84, op := Op.binOp BinOp.leq 3 (Operand.tmp 83) (Operand.const (Value.int IntKind.i64 1073741824)) 3, type := 4, pos := "ref.go:27", after := #[{ on := 6, ground := Ground.data }, { on := 4, ground := Ground.guard }], guard := some (4, true) }) (v := undef) rfl (by kernel_rfl) (by kernel_rfl) (by kernel_rfl) (fun _ _ _ h => h) (Or.inr ⟨by rfl, rfl⟩) hHeld ?_
    try simp only [Act.put, List.setIfInBounds_toArray, List.set_cons_zero, List.set_cons_succ]
    refine wpAnyH_take (i := 8) (oi := { dst := some 85, op := Op.pick (Operand.tmp 81) (Operand.tmp 84) (Operand.const (Value.bool false)), type := 4, pos := "ref.go:27", after := #[{ on := 4, ground := Ground.data }, { on := 7, ground := Ground.data }], guard := none }) (v := .bool false) rfl (by kernel_rfl) (by kernel_rfl) (by kernel_rfl) (fun _ _ _ h => h) (Or.inl ⟨by rfl, ?q15h⟩) hHeld ?q15r
    case q15h => (intro wq hSw; clear hSw; go_simp; try with_reducible rfl)
    try simp only [Act.put, List.setIfInBounds_toArray, List.set_cons_zero, List.set_cons_succ]
    refine wpAnyH_take (i := 9) (oi := { dst := some 86, op := Op.move (Operand.tmp 85), type := 4, pos := "ref.go:27", after := #[{ on := 8, ground := Ground.data }, { on := 4, ground := Ground.chain }], guard := none }) (v := ?q16v) rfl (by kernel_rfl) (by kernel_rfl) (by kernel_rfl) (fun _ _ _ h => h) (Or.inl ⟨by rfl, ?q16h⟩) hHeld ?q16r
    case q16h => (intro wq hSw; clear hSw; go_simp; try with_reducible rfl)
    try simp only [Act.put, List.setIfInBounds_toArray, List.set_cons_zero, List.set_cons_succ]
    refine wpAnyH_take (i := 10) (oi := { dst := some 87, op := Op.fieldAddr 28 (Operand.tmp 1) 3, type := 0, pos := "ref.go:27", after := #[{ on := 9, ground := Ground.guard }, { on := 14, ground := Ground.gcOnly Departure.lateStores }], guard := some (9, true) }) (v := undef) rfl (by kernel_rfl) (by kernel_rfl) (by kernel_rfl) (fun _ _ _ h => h) (Or.inr ⟨by rfl, rfl⟩) hHeld ?_
    try simp only [Act.put, List.setIfInBounds_toArray, List.set_cons_zero, List.set_cons_succ]
    refine wpAnyH_take (i := 11) (oi := { dst := some 88, op := Op.load 3 (Operand.tmp 87), type := 3, pos := "ref.go:27", after := #[{ on := 10, ground := Ground.data }, { on := 9, ground := Ground.guard }, { on := 14, ground := Ground.gcOnly Departure.lateStores }], guard := some (9, true) }) (v := undef) rfl (by kernel_rfl) (by kernel_rfl) (by kernel_rfl) (fun _ _ _ h => h) (Or.inr ⟨by rfl, rfl⟩) hHeld ?_
    try simp only [Act.put, List.setIfInBounds_toArray, List.set_cons_zero, List.set_cons_succ]
    refine wpAnyH_take (i := 12) (oi := { dst := some 89, op := Op.binOp BinOp.gtr 3 (Operand.tmp 88) (Operand.const (Value.int IntKind.i64 0)) 3, type := 4, pos := "ref.go:27", after := #[{ on := 11, ground := Ground.data }, { on := 9, ground := Ground.guard }, { on := 14, ground := Ground.gcOnly Departure.lateStores }], guard := some (9, true) }) (v := undef) rfl (by kernel_rfl) (by kernel_rfl) (by kernel_rfl) (fun _ _ _ h => h) (Or.inr ⟨by rfl, rfl⟩) hHeld ?_
    try simp only [Act.put, List.setIfInBounds_toArray, List.set_cons_zero, List.set_cons_succ]
    refine wpAnyH_take (i := 13) (oi := { dst := some 90, op := Op.pick (Operand.tmp 86) (Operand.tmp 89) (Operand.const (Value.bool false)), type := 4, pos := "ref.go:27", after := #[{ on := 9, ground := Ground.data }, { on := 12, ground := Ground.data }, { on := 14, ground := Ground.gcOnly Departure.lateStores }], guard := none }) (v := .bool false) rfl (by kernel_rfl) (by kernel_rfl) (by kernel_rfl) (fun _ _ _ h => h) (Or.inl ⟨by rfl, ?q20h⟩) hHeld ?q20r
    case q20h => (intro wq hSw; clear hSw; go_simp; try with_reducible rfl)
    try simp only [Act.put, List.setIfInBounds_toArray, List.set_cons_zero, List.set_cons_succ]
    refine wpAnyH_ready (rs := [14]) (by kernel_rfl) (by simp) ?_
    refine AllReadyH.cons (o := { dst := none, op := Op.store 28 (Operand.tmp 2) (Operand.tmp 77), type := 0, pos := "ref.go:27", after := #[{ on := 0, ground := Ground.data }, { on := 9, ground := Ground.chain }, { on := 0, ground := Ground.phase }, { on := 1, ground := Ground.textOnly Departure.lateStores }, { on := 2, ground := Ground.textOnly Departure.lateStores }, { on := 3, ground := Ground.textOnly Departure.lateStores }, { on := 4, ground := Ground.textOnly Departure.lateStores }, { on := 5, ground := Ground.textOnly Departure.lateStores }, { on := 6, ground := Ground.textOnly Departure.lateStores }, { on := 7, ground := Ground.textOnly Departure.lateStores }, { on := 8, ground := Ground.textOnly Departure.lateStores }, { on := 9, ground := Ground.textOnly Departure.lateStores }, { on := 10, ground := Ground.textOnly Departure.lateStores }, { on := 11, ground := Ground.textOnly Departure.lateStores }, { on := 12, ground := Ground.textOnly Departure.lateStores }, { on := 13, ground := Ground.textOnly Departure.lateStores }], guard := none }) rfl (fun K hK => ?_) (AllReadyH.nil)
    rw [if_pos (by rfl)]
    refine wp_store_ob 28 (.tmp 2) (.tmp 77) B1 (enCells ⟨l, 5, t, p, 0, 0, chNil, emptyS⟩) (enCells enNil) 28 rfl rfl rfl rfl (((HS5.out).drew).get 1 rfl) (info_en) (rfl) ((oneCell_en _)) ?_
    have HS6 : Hid (Hp w [.ob (w.heap.size) 28 (enCells ⟨l, 5, t, p, g, r, c, s⟩), .ob B1 28 (enCells ⟨l, 5, t, p, 0, 0, chNil, emptyS⟩), .ob B2 28 (enCells ⟨l, 5, t, p, 0, 0, chNil, emptyS⟩)] (w6.drew.setRow B1 (enCells ⟨l, 5, t, p, 0, 0, chNil, emptyS⟩).toArray)) := ((HS5.out).drew).row 1 rfl (enCells ⟨l, 5, t, p, 0, 0, chNil, emptyS⟩)
    refine hK.out _ _ (HS6.out.pick [0, 2] rfl) (fun hHeld => ?_)
    clear hK K
    generalize (w6.drew.setRow B1 (enCells ⟨l, 5, t, p, 0, 0, chNil, emptyS⟩).toArray) = w7 at *
    try simp only [Act.put, List.setIfInBounds_toArray, List.set_cons_zero, List.set_cons_succ]
    refine wpAnyH_take (i := 15) (oi := { dst := some 3, op := Op.assign (Operand.tmp 90), type := 4, pos := "ref.go:27", after := #[{ on := 13, ground := Ground.data }, { on := 14, ground := Ground.chain }, { on := 0, ground := Ground.phase }, { on := 1, ground := Ground.phase }, { on := 2, ground := Ground.phase }, { on := 3, ground := Ground.phase }, { on := 4, ground := Ground.phase }, { on := 5, ground := Ground.phase }, { on := 6, ground := Ground.phase }, { on := 7, ground := Ground.phase }, { on := 8, ground := Ground.phase }, { on := 9, ground := Ground.phase }, { on := 10, ground := Ground.phase }, { on := 11, ground := Ground.phase }, { on := 12, ground := Ground.phase }, { on := 13, ground := Ground.phase }, { on := 14, ground := Ground.phase }], guard := none }) (v := ?q21v) rfl (by kernel_rfl) (by kernel_rfl) (by kernel_rfl) (fun _ _ _ h => h) (Or.inl ⟨by rfl, ?q21h⟩) hHeld ?q21r
    case q21h => (intro wq hSw; clear hSw; go_simp; try with_reducible rfl)
    try simp only [Act.put, List.setIfInBounds_toArray, List.set_cons_zero, List.set_cons_succ]
    refine wpAnyH_done (by kernel_rfl) ?_ _
    go_wp2_with fail
    refine bodyPost_ret (results_ob_tmp Try.results32 _ _ B1 (enCells ⟨l, 5, t, p, 0, 0, chNil, emptyS⟩) 28 _ rfl ((HS6.out).get 1 rfl) HUE.out rfl info_en) rfl ?_
    exact ShPost.mk rfl (by show (isTxB t && posB p) = _; simp [isTxB, posB]; omega) (HS6.out).old
  case pos =>
    by_cases t2 : t ≤ 1073741824
    case neg =>
      go_upto_region 15 with (fail)
      refine wp_region_held_drew (S := fun w' => Hold w.heap.size [.ob (w.heap.size) 28 (enCells ⟨l, 5, t, p, g, r, c, s⟩), .ob B2 28 (enCells ⟨l, 5, t, p, 0, 0, chNil, emptyS⟩)] w') (by kernel_rfl) ((HS5.out).drew.pick [0, 2] rfl) (fun hHeld => ?_)
      refine wpAnyH_take (i := 0) (oi := { dst := some 77, op := Op.load 28 (Operand.tmp 4), type := 28, pos := "ref.go:27", after := #[], guard := none }) rfl (by kernel_rfl) (by kernel_rfl) (by kernel_rfl) (fun _ _ _ h => h) (yieldsIf_load_mid (by rfl) 28 (.tmp 4) rfl B2 0 rfl (enCells ⟨l, 5, t, p, 0, 0, chNil, emptyS⟩) _ (fun _ h => h.whole 1 rfl) HUE.out rfl (info_en)) hHeld ?_
      try simp only [Act.put, List.setIfInBounds_toArray, List.set_cons_zero, List.set_cons_succ]
      refine wpAnyH_take (i := 1) (oi := { dst := some 78, op := Op.fieldAddr 28 (Operand.tmp 1) 2, type := 0, pos := "ref.go:27", after := #[], guard := none }) (v := ?q23v) rfl (by kernel_rfl) (by kernel_rfl) (by kernel_rfl) (fun _ _ _ h => h) (Or.inl ⟨by rfl, ?q23h⟩) hHeld ?q23r
      case q23h => (intro wq hSw; clear hSw; go_simp; try with_reducible rfl)
      try simp only [Act.put, List.setIfInBounds_toArray, List.set_cons_zero, List.set_cons_succ]
      refine wpAnyH_take (i := 2) (oi := { dst := some 79, op := Op.load 3 (Operand.tmp 78), type := 3, pos := "ref.go:27", after := #[{ on := 1, ground := Ground.data }], guard := none }) (v := .int .i64 t) rfl (by kernel_rfl) (by kernel_rfl) (by kernel_rfl) (fun _ _ _ h => h) (Or.inl ⟨by rfl, ?q24h⟩) hHeld ?q24r
      case q24h => (intro wq hSw; have lq := hSw.at 0 rfl 2 (v := .int .i64 t) rfl; clear hSw; go_simp; try with_reducible rfl)
      try simp only [Act.put, List.setIfInBounds_toArray, List.set_cons_zero, List.set_cons_succ]
      refine wpAnyH_take (i := 3) (oi := { dst := some 80, op := Op.binOp BinOp.geq 3 (Operand.tmp 79) (Operand.const (Value.int IntKind.i64 1)) 3, type := 4, pos := "ref.go:27", after := #[{ on := 2, ground := Ground.data }], guard := none }) (v := .bool true) rfl (by kernel_rfl) (by kernel_rfl) (by kernel_rfl) (fun _ _ _ h => h) (Or.inl ⟨by rfl, ?q25h⟩) hHeld ?q25r
      case q25h => (intro wq hSw; clear hSw; go_simp; try with_reducible rfl)
      try simp only [Act.put, List.setIfInBounds_toArray, List.set_cons_zero, List.set_cons_succ]
      refine wpAnyH_take (i := 4) (oi := { dst := some 81, op := Op.move (Operand.tmp 80), type := 4, pos := "ref.go:27", after := #[{ on := 3, ground := Ground.data }], guard := none }) (v := ?q26v) rfl (by kernel_rfl) (by kernel_rfl) (by kernel_rfl) (fun _ _ _ h => h) (Or.inl ⟨by rfl, ?q26h⟩) hHeld ?q26r
      case q26h => (intro wq hSw; clear hSw; go_simp; try with_reducible rfl)
      try simp only [Act.put, List.setIfInBounds_toArray, List.set_cons_zero, List.set_cons_succ]
      refine wpAnyH_take (i := 5) (oi := { dst := some 82, op := Op.fieldAddr 28 (Operand.tmp 1) 2, type := 0, pos := "ref.go:27", after := #[{ on := 4, ground := Ground.guard }], guard := some (4, true) }) (v := ?q27v) rfl (by kernel_rfl) (by kernel_rfl) (by kernel_rfl) (fun _ _ _ h => h) (Or.inl ⟨by rfl, ?q27h⟩) hHeld ?q27r
      case q27h => (intro wq hSw; clear hSw; go_simp; try with_reducible rfl)
      try simp only [Act.put, List.setIfInBounds_toArray, List.set_cons_zero, List.set_cons_succ]
      refine wpAnyH_take (i := 6) (oi := { dst := some 83, op := Op.load 3 (Operand.tmp 82), type := 3, pos := "ref.go:27", after := #[{ on := 5, ground := Ground.data }, { on := 4, ground := Ground.guard }], guard := some (4, true) }) (v := .int .i64 t) rfl (by kernel_rfl) (by kernel_rfl) (by kernel_rfl) (fun _ _ _ h => h) (Or.inl ⟨by rfl, ?q28h⟩) hHeld ?q28r
      case q28h => (intro wq hSw; have lq := hSw.at 0 rfl 2 (v := .int .i64 t) rfl; clear hSw; go_simp; try with_reducible rfl)
      try simp only [Act.put, List.setIfInBounds_toArray, List.set_cons_zero, List.set_cons_succ]
      refine wpAnyH_take (i := 7) (oi := { dst := some 84, op := Op.binOp BinOp.leq 3 (Operand.tmp 83) (Operand.const (Value.int IntKind.i64 1073741824)) 3, type := 4, pos := "ref.go:27", after := #[{ on := 6, ground := Ground.data }, { on := 4, ground := Ground.guard }], guard := some (4, true) }) (v := .bool false) rfl (by kernel_rfl) (by kernel_rfl) (by kernel_rfl) (fun _ _ _ h => h) (Or.inl ⟨by rfl, ?q29h⟩) hHeld ?q29r
      case q29h => (intro wq hSw; clear hSw; go_simp; try with_reducible rfl)
      try simp only [Act.put, List.setIfInBounds_toArray, List.set_cons_zero, List.set_cons_succ]
      refine wpAnyH_take (i := 8) (oi := { dst := some 85, op := Op.pick (Operand.tmp 81) (Operand.tmp 84) (Operand.const (Value.bool false)), type := 4, pos := "ref.go:27", after := #[{ on := 4, ground := Ground.data }, { on := 7, ground := Ground.data }], guard := none }) (v := .bool false) rfl (by kernel_rfl) (by kernel_rfl) (by kernel_rfl) (fun _ _ _ h => h) (Or.inl ⟨by rfl, ?q30h⟩) hHeld ?q30r
      case q30h => (intro wq hSw; clear hSw; go_simp; try with_reducible rfl)
      try simp only [Act.put, List.setIfInBounds_toArray, List.set_cons_zero, List.set_cons_succ]
      refine wpAnyH_take (i := 9) (oi := { dst := some 86, op := Op.move (Operand.tmp 85), type := 4, pos := "ref.go:27", after := #[{ on := 8, ground := Ground.data }, { on := 4, ground := Ground.chain }], guard := none }) (v := ?q31v) rfl (by kernel_rfl) (by kernel_rfl) (by kernel_rfl) (fun _ _ _ h => h) (Or.inl ⟨by rfl, ?q31h⟩) hHeld ?q31r
      case q31h => (intro wq hSw; clear hSw; go_simp; try with_reducible rfl)
      try simp only [Act.put, List.setIfInBounds_toArray, List.set_cons_zero, List.set_cons_succ]
      refine wpAnyH_take (i := 10) (oi := { dst := some 87, op := Op.fieldAddr 28 (Operand.tmp 1) 3, type := 0, pos := "ref.go:27", after := #[{ on := 9, ground := Ground.guard }, { on := 14, ground := Ground.gcOnly Departure.lateStores }], guard := some (9, true) }) (v := undef) rfl (by kernel_rfl) (by kernel_rfl) (by kernel_rfl) (fun _ _ _ h => h) (Or.inr ⟨by rfl, rfl⟩) hHeld ?_
      try simp only [Act.put, List.setIfInBounds_toArray, List.set_cons_zero, List.set_cons_succ]
      refine wpAnyH_take (i := 11) (oi := { dst := some 88, op := Op.load 3 (Operand.tmp 87), type := 3, pos := "ref.go:27", after := #[{ on := 10, ground := Ground.data }, { on := 9, ground := Ground.guard }, { on := 14, ground := Ground.gcOnly Departure.lateStores }], guard := some (9, true) }) (v := undef) rfl (by kernel_rfl) (by kernel_rfl) (by kernel_rfl) (fun _ _ _ h => h) (Or.inr ⟨by rfl, rfl⟩) hHeld ?_
      try simp only [Act.put, List.setIfInBounds_toArray, List.set_cons_zero, List.set_cons_succ]
      refine wpAnyH_take (i := 12) (oi := { dst := some 89, op := Op.binOp BinOp.gtr 3 (Operand.tmp 88) (Operand.const (Value.int IntKind.i64 0)) 3, type := 4, pos := "ref.go:27", after := #[{ on := 11, ground := Ground.data }, { on := 9, ground := Ground.guard }, { on := 14, ground := Ground.gcOnly Departure.lateStores }], guard := some (9, true) }) (v := undef) rfl (by kernel_rfl) (by kernel_rfl) (by kernel_rfl) (fun _ _ _ h => h) (Or.inr ⟨by rfl, rfl⟩) hHeld ?_
      try simp only [Act.put, List.setIfInBounds_toArray, List.set_cons_zero, List.set_cons_succ]
      refine wpAnyH_take (i := 13) (oi := { dst := some 90, op := Op.pick (Operand.tmp 86) (Operand.tmp 89) (Operand.const (Value.bool false)), type := 4, pos := "ref.go:27", after := #[{ on := 9, ground := Ground.data }, { on := 12, ground := Ground.data }, { on := 14, ground := Ground.gcOnly Departure.lateStores }], guard := none }) (v := .bool false) rfl (by kernel_rfl) (by kernel_rfl) (by kernel_rfl) (fun _ _ _ h => h) (Or.inl ⟨by rfl, ?q35h⟩) hHeld ?q35r
      case q35h => (intro wq hSw; clear hSw; go_simp; try with_reducible rfl)
      try simp only [Act.put, List.setIfInBounds_toArray, List.set_cons_zero, List.set_cons_succ]
      refine wpAnyH_ready (rs := [14]) (by kernel_rfl) (by simp) ?_
      refine AllReadyH.cons (o := { dst := none, op := Op.store 28 (Operand.tmp 2) (Operand.tmp 77), type := 0, pos := "ref.go:27", after := #[{ on := 0, ground := Ground.data }, { on := 9, ground := Ground.chain }, { on := 0, ground := Ground.phase }, { on := 1, ground := Ground.textOnly Departure.lateStores }, { on := 2, ground := Ground.textOnly Departure.lateStores }, { on := 3, ground := Ground.textOnly Departure.lateStores }, { on := 4, ground := Ground.textOnly Departure.lateStores }, { on := 5, ground := Ground.textOnly Departure.lateStores }, { on := 6, ground := Ground.textOnly Departure.lateStores }, { on := 7, ground := Ground.textOnly Departure.lateStores }, { on := 8, ground := Ground.textOnly Departure.lateStores }, { on := 9, ground := Ground.textOnly Departure.lateStores }, { on := 10, ground := Ground.textOnly Departure.lateStores }, { on := 11, ground := Ground.textOnly Departure.lateStores }, { on := 12, ground := Ground.textOnly Departure.lateStores }, { on := 13, ground := Ground.textOnly Departure.lateStores }], guard := none }) rfl (fun K hK => ?_) (AllReadyH.nil)
      rw [if_pos (by rfl)]
      refine wp_store_ob 28 (.tmp 2) (.tmp 77) B1 (enCells ⟨l, 5, t, p, 0, 0, chNil, emptyS⟩) (enCells enNil) 28 rfl rfl rfl rfl (((HS5.out).drew).get 1 rfl) (info_en) (rfl) ((oneCell_en _)) ?_
      have HS6 : Hid (Hp w [.ob (w.heap.size) 28 (enCells ⟨l, 5, t, p, g, r, c, s⟩), .ob B1 28 (enCells ⟨l, 5, t, p, 0, 0, chNil, emptyS⟩), .ob B2 28 (enCells ⟨l, 5, t, p, 0, 0, chNil, emptyS⟩)] (w6.drew.setRow B1 (enCells ⟨l, 5, t, p, 0, 0, chNil, emptyS⟩).toArray)) := ((HS5.out).drew).row 1 rfl (enCells ⟨l, 5, t, p, 0, 0, chNil, emptyS⟩)
      refine hK.out _ _ (HS6.out.pick [0, 2] rfl) (fun hHeld => ?_)
      clear hK K
      generalize (w6.drew.setRow B1 (enCells ⟨l, 5, t, p, 0, 0, chNil, emptyS⟩).toArray) = w7 at *
      try simp only [Act.put, List.setIfInBounds_toArray, List.set_cons_zero, List.set_cons_succ]
      refine wpAnyH_take (i := 15) (oi := { dst := some 3, op := Op.assign (Operand.tmp 90), type := 4, pos := "ref.go:27", after := #[{ on := 13, ground := Ground.data }, { on := 14, ground := Ground.chain }, { on := 0, ground := Ground.phase }, { on := 1, ground := Ground.phase }, { on := 2, ground := Ground.phase }, { on := 3, ground := Ground.phase }, { on := 4, ground := Ground.phase }, { on := 5, ground := Ground.phase }, { on := 6, ground := Ground.phase }, { on := 7, ground := Ground.phase }, { on := 8, ground := Ground.phase }, { on := 9, ground := Ground.phase }, { on := 10, ground := Ground.phase }, { on := 11, ground := Ground.phase }, { on := 12, ground := Ground.phase }, { on := 13, ground := Ground.phase }, { on := 14, ground := Ground.phase }], guard := none }) (v := ?q36v) rfl (by kernel_rfl) (by kernel_rfl) (by kernel_rfl) (fun _ _ _ h => h) (Or.inl ⟨by rfl, ?q36h⟩) hHeld ?q36r
      case q36h => (intro wq hSw; clear hSw; go_simp; try with_reducible rfl)
      try simp only [Act.put, List.setIfInBounds_toArray, List.set_cons_zero, List.set_cons_succ]
      refine wpAnyH_done (by kernel_rfl) ?_ _
      go_wp2_with fail
      refine bodyPost_ret (results_ob_tmp Try.results32 _ _ B1 (enCells ⟨l, 5, t, p, 0, 0, chNil, emptyS⟩) 28 _ rfl ((HS6.out).get 1 rfl) HUE.out rfl info_en) rfl ?_
      exact ShPost.mk rfl (by show (isTxB t && posB p) = _; simp [isTxB, posB]; omega) (HS6.out).old
    case pos =>
      by_cases p1 : 0 < p
      case neg =>
        go_upto_region 15 with (fail)
        refine wp_region_held_drew (S := fun w' => Hold w.heap.size [.ob (w.heap.size) 28 (enCells ⟨l, 5, t, p, g, r, c, s⟩), .ob B2 28 (enCells ⟨l, 5, t, p, 0, 0, chNil, emptyS⟩)] w') (by kernel_rfl) ((HS5.out).drew.pick [0, 2] rfl) (fun hHeld => ?_)
        refine wpAnyH_take (i := 0) (oi := { dst := some 77, op := Op.load 28 (Operand.tmp 4), type := 28, pos := "ref.go:27", after := #[], guard := none }) rfl (by kernel_rfl) (by kernel_rfl) (by kernel_rfl) (fun _ _ _ h => h) (yieldsIf_load_mid (by rfl) 28 (.tmp 4) rfl B2 0 rfl (enCells ⟨l, 5, t, p, 0, 0, chNil, emptyS⟩) _ (fun _ h => h.whole 1 rfl) HUE.out rfl (info_en)) hHeld ?_
        try simp only [Act.put, List.setIfInBounds_toArray, List.set_cons_zero, List.set_cons_succ]
        refine wpAnyH_take (i := 1) (oi := { dst := some 78, op := Op.fieldAddr 28 (Operand.tmp 1) 2, type := 0, pos := "ref.go:27", after := #[], guard := none }) (v := ?q38v) rfl (by kernel_rfl) (by kernel_rfl) (by kernel_rfl) (fun _ _ _ h => h) (Or.inl ⟨by rfl, ?q38h⟩) hHeld ?q38r
        case q38h => (intro wq hSw; clear hSw; go_simp; try with_reducible rfl)
        try simp only [Act.put, List.setIfInBounds_toArray, List.set_cons_zero, List.set_cons_succ]
        refine wpAnyH_take (i := 2) (oi := { dst := some 79, op := Op.load 3 (Operand.tmp 78), type := 3, pos := "ref.go:27", after := #[{ on := 1, ground := Ground.data }], guard := none }) (v := .int .i64 t) rfl (by kernel_rfl) (by kernel_rfl) (by kernel_rfl) (fun _ _ _ h => h) (Or.inl ⟨by rfl, ?q39h⟩) hHeld ?q39r
        case q39h => (intro wq hSw; have lq := hSw.at 0 rfl 2 (v := .int .i64 t) rfl; clear hSw; go_simp; try with_reducible rfl)
        try simp only [Act.put, List.setIfInBounds_toArray, List.set_cons_zero, List.set_cons_succ]
        refine wpAnyH_take (i := 3) (oi := { dst := some 80, op := Op.binOp BinOp.geq 3 (Operand.tmp 79) (Operand.const (Value.int IntKind.i64 1)) 3, type := 4, pos := "ref.go:27", after := #[{ on := 2, ground := Ground.data }], guard := none }) (v := .bool true) rfl (by kernel_rfl) (by kernel_rfl) (by kernel_rfl) (fun _ _ _ h => h) (Or.inl ⟨by rfl, ?q40h⟩) hHeld ?q40r
        case q40h => (intro wq hSw; clear hSw; go_simp; try with_reducible rfl)
        try simp only [Act.put, List.setIfInBounds_toArray, List.set_cons_zero, List.set_cons_succ]
        refine wpAnyH_take (i := 4) (oi := { dst := some 81, op := Op.move (Operand.tmp 80), type := 4, pos := "ref.go:27", after := #[{ on := 3, ground := Ground.data }], guard := none }) (v := ?q41v) rfl (by kernel_rfl) (by kernel_rfl) (by kernel_rfl) (fun _ _ _ h => h) (Or.inl ⟨by rfl, ?q41h⟩) hHeld ?q41r
        case q41h => (intro wq hSw; clear hSw; go_simp; try with_reducible rfl)
        try simp only [Act.put, List.setIfInBounds_toArray, List.set_cons_zero, List.set_cons_succ]
        refine wpAnyH_take (i := 5) (oi := { dst := some 82, op := Op.fieldAddr 28 (Operand.tmp 1) 2, type := 0, pos := "ref.go:27", after := #[{ on := 4, ground := Ground.guard }], guard := some (4, true) }) (v := ?q42v) rfl (by kernel_rfl) (by kernel_rfl) (by kernel_rfl) (fun _ _ _ h => h) (Or.inl ⟨by rfl, ?q42h⟩) hHeld ?q42r
        case q42h => (intro wq hSw; clear hSw; go_simp; try with_reducible rfl)
        try simp only [Act.put, List.setIfInBounds_toArray, List.set_cons_zero, List.set_cons_succ]
        refine wpAnyH_take (i := 6) (oi := { dst := some 83, op := Op.load 3 (Operand.tmp 82), type := 3, pos := "ref.go:27", after := #[{ on := 5, ground := Ground.data }, { on := 4, ground := Ground.guard }], guard := some (4, true) }) (v := .int .i64 t) rfl (by kernel_rfl) (by kernel_rfl) (by kernel_rfl) (fun _ _ _ h => h) (Or.inl ⟨by rfl, ?q43h⟩) hHeld ?q43r
        case q43h => (intro wq hSw; have lq := hSw.at 0 rfl 2 (v := .int .i64 t) rfl; clear hSw; go_simp; try with_reducible rfl)
        try simp only [Act.put, List.setIfInBounds_toArray, List.set_cons_zero, List.set_cons_succ]
        refine wpAnyH_take (i := 7) (oi := { dst := some 84, op := Op.binOp BinOp.leq 3 (Operand.tmp 83) (Operand.const (Value.int IntKind.i64 1073741824)) 3, type := 4, pos := "ref.go:27", after := #[{ on := 6, ground := Ground.data }, { on := 4, ground := Ground.guard }], guard := some (4, true) }) (v := .bool true) rfl (by kernel_rfl) (by kernel_rfl) (by kernel_rfl) (fun _ _ _ h => h) (Or.inl ⟨by rfl, ?q44h⟩) hHeld ?q44r
        case q44h => (intro wq hSw; clear hSw; go_simp; try with_reducible rfl)
        try simp only [Act.put, List.setIfInBounds_toArray, List.set_cons_zero, List.set_cons_succ]
        refine wpAnyH_take (i := 8) (oi := { dst := some 85, op := Op.pick (Operand.tmp 81) (Operand.tmp 84) (Operand.const (Value.bool false)), type := 4, pos := "ref.go:27", after := #[{ on := 4, ground := Ground.data }, { on := 7, ground := Ground.data }], guard := none }) (v := .bool true) rfl (by kernel_rfl) (by kernel_rfl) (by kernel_rfl) (fun _ _ _ h => h) (Or.inl ⟨by rfl, ?q45h⟩) hHeld ?q45r
        case q45h => (intro wq hSw; clear hSw; go_simp; try with_reducible rfl)
        try simp only [Act.put, List.setIfInBounds_toArray, List.set_cons_zero, List.set_cons_succ]
        refine wpAnyH_take (i := 9) (oi := { dst := some 86, op := Op.move (Operand.tmp 85), type := 4, pos := "ref.go:27", after := #[{ on := 8, ground := Ground.data }, { on := 4, ground := Ground.chain }], guard := none }) (v := ?q46v) rfl (by kernel_rfl) (by kernel_rfl) (by kernel_rfl) (fun _ _ _ h => h) (Or.inl ⟨by rfl, ?q46h⟩) hHeld ?q46r
        case q46h => (intro wq hSw; clear hSw; go_simp; try with_reducible rfl)
        try simp only [Act.put, List.setIfInBounds_toArray, List.set_cons_zero, List.set_cons_succ]
        refine wpAnyH_take (i := 10) (oi := { dst := some 87, op := Op.fieldAddr 28 (Operand.tmp 1) 3, type := 0, pos := "ref.go:27", after := #[{ on := 9, ground := Ground.guard }, { on := 14, ground := Ground.gcOnly Departure.lateStores }], guard := some (9, true) }) (v := ?q47v) rfl (by kernel_rfl) (by kernel_rfl) (by kernel_rfl) (fun _ _ _ h => h) (Or.inl ⟨by rfl, ?q47h⟩) hHeld ?q47r
        case q47h => (intro wq hSw; clear hSw; go_simp; try with_reducible rfl)
        try simp only [Act.put, List.setIfInBounds_toArray, List.set_cons_zero, List.set_cons_succ]
        refine wpAnyH_take (i := 11) (oi := { dst := some 88, op := Op.load 3 (Operand.tmp 87), type := 3, pos := "ref.go:27", after := #[{ on := 10, ground := Ground.data }, { on := 9, ground := Ground.guard }, { on := 14, ground := Ground.gcOnly Departure.lateStores }], guard := some (9, true) }) (v := .int .i64 p) rfl (by kernel_rfl) (by kernel_rfl) (by kernel_rfl) (fun _ _ _ h => h) (Or.inl ⟨by rfl, ?q48h⟩) hHeld ?q48r
        case q48h => (intro wq hSw; have lq := hSw.at 0 rfl 3 (v := .int .i64 p) rfl; clear hSw; go_simp; try with_reducible rfl)
        try simp only [Act.put, List.setIfInBounds_toArray, List.set_cons_zero, List.set_cons_succ]
        refine wpAnyH_take (i := 12) (oi := { dst := some 89, op := Op.binOp BinOp.gtr 3 (Operand.tmp 88) (Operand.const (Value.int IntKind.i64 0)) 3, type := 4, pos := "ref.go:27", after := #[{ on := 11, ground := Ground.data }, { on := 9, ground := Ground.guard }, { on := 14, ground := Ground.gcOnly Departure.lateStores }], guard := some (9, true) }) (v := .bool false) rfl (by kernel_rfl) (by kernel_rfl) (by kernel_rfl) (fun _ _ _ h => h) (Or.inl ⟨by rfl, ?q49h⟩) hHeld ?q49r
        case q49h => (intro wq hSw; clear hSw; go_simp; try with_reducible rfl)
        try simp only [Act.put, List.setIfInBounds_toArray, List.set_cons_zero, List.set_cons_succ]
        refine wpAnyH_take (i := 13) (oi := { dst := some 90, op := Op.pick (Operand.tmp 86) (Operand.tmp 89) (Operand.const (Value.bool false)), type := 4, pos := "ref.go:27", after := #[{ on := 9, ground := Ground.data }, { on := 12, ground := Ground.data }, { on := 14, ground := Ground.gcOnly Departure.lateStores }], guard := none }) (v := .bool false) rfl (by kernel_rfl) (by kernel_rfl) (by kernel_rfl) (fun _ _ _ h => h) (Or.inl ⟨by rfl, ?q50h⟩) hHeld ?q50r
        case q50h => (intro wq hSw; clear hSw; go_simp; try with_reducible rfl)
        try simp only [Act.put, List.setIfInBounds_toArray, List.set_cons_zero, List.set_cons_succ]
        refine wpAnyH_ready (rs := [14]) (by kernel_rfl) (by simp) ?_
        refine AllReadyH.cons (o := { dst := none, op := Op.store 28 (Operand.tmp 2) (Operand.tmp 77), type := 0, pos := "ref.go:27", after := #[{ on := 0, ground := Ground.data }, { on := 9, ground := Ground.chain }, { on := 0, ground := Ground.phase }, { on := 1, ground := Ground.textOnly Departure.lateStores }, { on := 2, ground := Ground.textOnly Departure.lateStores }, { on := 3, ground := Ground.textOnly Departure.lateStores }, { on := 4, ground := Ground.textOnly Departure.lateStores }, { on := 5, ground := Ground.textOnly Departure.lateStores }, { on := 6, ground := Ground.textOnly Departure.lateStores }, { on := 7, ground := Ground.textOnly Departure.lateStores }, { on := 8, ground := Ground.textOnly Departure.lateStores }, { on := 9, ground := Ground.textOnly Departure.lateStores }, { on := 10, ground := Ground.textOnly Departure.lateStores }, { on := 11, ground := Ground.textOnly Departure.lateStores }, { on := 12, ground := Ground.textOnly Departure.lateStores }, { on := 13, ground := Ground.textOnly Departure.lateStores }], guard := none }) rfl (fun K hK => ?_) (AllReadyH.nil)
        rw [if_pos (by rfl)]
        refine wp_store_ob 28 (.tmp 2) (.tmp 77) B1 (enCells ⟨l, 5, t, p, 0, 0, chNil, emptyS⟩) (enCells enNil) 28 rfl rfl rfl rfl (((HS5.out).drew).get 1 rfl) (info_en) (rfl) ((oneCell_en _)) ?_
        have HS6 : Hid (Hp w [.ob (w.heap.size) 28 (enCells ⟨l, 5, t, p, g, r, c, s⟩), .ob B1 28 (enCells ⟨l, 5, t, p, 0, 0, chNil, emptyS⟩), .ob B2 28 (enCells ⟨l, 5, t, p, 0, 0, chNil, emptyS⟩)] (w6.drew.setRow B1 (enCells ⟨l, 5, t, p, 0, 0, chNil, emptyS⟩).toArray)) := ((HS5.out).drew).row 1 rfl (enCells ⟨l, 5, t, p, 0, 0, chNil, emptyS⟩)
        refine hK.out _ _ (HS6.out.pick [0, 2] rfl) (fun hHeld => ?_)
        clear hK K
        generalize (w6.drew.setRow B1 (enCells ⟨l, 5, t, p, 0, 0, chNil, emptyS⟩).toArray) = w7 at *
        try simp only [Act.put, List.setIfInBounds_toArray, List.set_cons_zero, List.set_cons_succ]
        refine wpAnyH_take (i := 15) (oi := { dst := some 3, op := Op.assign (Operand.tmp 90), type := 4, pos := "ref.go:27", after := #[{ on := 13, ground := Ground.data }, { on := 14, ground := Ground.chain }, { on := 0, ground := Ground.phase }, { on := 1, ground := Ground.phase }, { on := 2, ground := Ground.phase }, { on := 3, ground := Ground.phase }, { on := 4, ground := Ground.phase }, { on := 5, ground := Ground.phase }, { on := 6, ground := Ground.phase }, { on := 7, ground := Ground.phase }, { on := 8, ground := Ground.phase }, { on := 9, ground := Ground.phase }, { on := 10, ground := Ground.phase }, { on := 11, ground := Ground.phase }, { on := 12, ground := Ground.phase }, { on := 13, ground := Ground.phase }, { on := 14, ground := Ground.phase }], guard := none }) (v := ?q51v) rfl (by kernel_rfl) (by kernel_rfl) (by kernel_rfl) (fun _ _ _ h => h) (Or.inl ⟨by rfl, ?q51h⟩) hHeld ?q51r
        case q51h => (intro wq hSw; clear hSw; go_simp; try with_reducible rfl)
        try simp only [Act.put, List.setIfInBounds_toArray, List.set_cons_zero, List.set_cons_succ]
        refine wpAnyH_done (by kernel_rfl) ?_ _
        go_wp2_with fail
        refine bodyPost_ret (results_ob_tmp Try.results32 _ _ B1 (enCells ⟨l, 5, t, p, 0, 0, chNil, emptyS⟩) 28 _ rfl ((HS6.out).get 1 rfl) HUE.out rfl info_en) rfl ?_
        exact ShPost.mk rfl (by show (isTxB t && posB p) = _; simp [isTxB, posB]; omega) (HS6.out).old
      case pos =>
        go_upto_region 15 with (fail)
        refine wp_region_held_drew (S := fun w' => Hold w.heap.size [.ob (w.heap.size) 28 (enCells ⟨l, 5, t, p, g, r, c, s⟩), .ob B2 28 (enCells ⟨l, 5, t, p, 0, 0, chNil, emptyS⟩)] w') (by kernel_rfl) ((HS5.out).drew.pick [0, 2] rfl) (fun hHeld => ?_)
        refine wpAnyH_take (i := 0) (oi := { dst := some 77, op := Op.load 28 (Operand.tmp 4), type := 28, pos := "ref.go:27", after := #[], guard := none }) rfl (by kernel_rfl) (by kernel_rfl) (by kernel_rfl) (fun _ _ _ h => h) (yieldsIf_load_mid (by rfl) 28 (.tmp 4) rfl B2 0 rfl (enCells ⟨l, 5, t, p, 0, 0, chNil, emptyS⟩) _ (fun _ h => h.whole 1 rfl) HUE.out rfl (info_en)) hHeld ?_
        try simp only [Act.put, List.setIfInBounds_toArray, List.set_cons_zero, List.set_cons_succ]
        refine wpAnyH_take (i := 1) (oi := { dst := some 78, op := Op.fieldAddr 28 (Operand.tmp 1) 2, type := 0, pos := "ref.go:27", after := #[], guard := none }) (v := ?q53v) rfl (by kernel_rfl) (by kernel_rfl) (by kernel_rfl) (fun _ _ _ h => h) (Or.inl ⟨by rfl, ?q53h⟩) hHeld ?q53r
        case q53h => (intro wq hSw; clear hSw; go_simp; try with_reducible rfl)
        try simp only [Act.put, List.setIfInBounds_toArray, List.set_cons_zero, List.set_cons_succ]
        refine wpAnyH_take (i := 2) (oi := { dst := some 79, op := Op.load 3 (Operand.tmp 78), type := 3, pos := "ref.go:27", after := #[{ on := 1, ground := Ground.data }], guard := none }) (v := .int .i64 t) rfl (by kernel_rfl) (by kernel_rfl) (by kernel_rfl) (fun _ _ _ h => h) (Or.inl ⟨by rfl, ?q54h⟩) hHeld ?q54r
        case q54h => (intro wq hSw; have lq := hSw.at 0 rfl 2 (v := .int .i64 t) rfl; clear hSw; go_simp; try with_reducible rfl)
        try simp only [Act.put, List.setIfInBounds_toArray, List.set_cons_zero, List.set_cons_succ]
        refine wpAnyH_take (i := 3) (oi := { dst := some 80, op := Op.binOp BinOp.geq 3 (Operand.tmp 79) (Operand.const (Value.int IntKind.i64 1)) 3, type := 4, pos := "ref.go:27", after := #[{ on := 2, ground := Ground.data }], guard := none }) (v := .bool true) rfl (by kernel_rfl) (by kernel_rfl) (by kernel_rfl) (fun _ _ _ h => h) (Or.inl ⟨by rfl, ?q55h⟩) hHeld ?q55r
        case q55h => (intro wq hSw; clear hSw; go_simp; try with_reducible rfl)
        try simp only [Act.put, List.setIfInBounds_toArray, List.set_cons_zero, List.set_cons_succ]
        refine wpAnyH_take (i := 4) (oi := { dst := some 81, op := Op.move (Operand.tmp 80), type := 4, pos := "ref.go:27", after := #[{ on := 3, ground := Ground.data }], guard := none }) (v := ?q56v) rfl (by kernel_rfl) (by kernel_rfl) (by kernel_rfl) (fun _ _ _ h => h) (Or.inl ⟨by rfl, ?q56h⟩) hHeld ?q56r
        case q56h => (intro wq hSw; clear hSw; go_simp; try with_reducible rfl)
        try simp only [Act.put, List.setIfInBounds_toArray, List.set_cons_zero, List.set_cons_succ]
        refine wpAnyH_take (i := 5) (oi := { dst := some 82, op := Op.fieldAddr 28 (Operand.tmp 1) 2, type := 0, pos := "ref.go:27", after := #[{ on := 4, ground := Ground.guard }], guard := some (4, true) }) (v := ?q57v) rfl (by kernel_rfl) (by kernel_rfl) (by kernel_rfl) (fun _ _ _ h => h) (Or.inl ⟨by rfl, ?q57h⟩) hHeld ?q57r
        case q57h => (intro wq hSw; clear hSw; go_simp; try with_reducible rfl)
        try simp only [Act.put, List.setIfInBounds_toArray, List.set_cons_zero, List.set_cons_succ]
        refine wpAnyH_take (i := 6) (oi := { dst := some 83, op := Op.load 3 (Operand.tmp 82), type := 3, pos := "ref.go:27", after := #[{ on := 5, ground := Ground.data }, { on := 4, ground := Ground.guard }], guard := some (4, true) }) (v := .int .i64 t) rfl (by kernel_rfl) (by kernel_rfl) (by kernel_rfl) (fun _ _ _ h => h) (Or.inl ⟨by rfl, ?q58h⟩) hHeld ?q58r
        case q58h => (intro wq hSw; have lq := hSw.at 0 rfl 2 (v := .int .i64 t) rfl; clear hSw; go_simp; try with_reducible rfl)
        try simp only [Act.put, List.setIfInBounds_toArray, List.set_cons_zero, List.set_cons_succ]
        refine wpAnyH_take (i := 7) (oi := { dst := some 84, op := Op.binOp BinOp.leq 3 (Operand.tmp 83) (Operand.const (Value.int IntKind.i64 1073741824)) 3, type := 4, pos := "ref.go:27", after := #[{ on := 6, ground := Ground.data }, { on := 4, ground := Ground.guard }], guard := some (4, true) }) (v := .bool true) rfl (by kernel_rfl) (by kernel_rfl) (by kernel_rfl) (fun _ _ _ h => h) (Or.inl ⟨by rfl, ?q59h⟩) hHeld ?q59r
        case q59h => (intro wq hSw; clear hSw; go_simp; try with_reducible rfl)
        try simp only [Act.put, List.setIfInBounds_toArray, List.set_cons_zero, List.set_cons_succ]
        refine wpAnyH_take (i := 8) (oi := { dst := some 85, op := Op.pick (Operand.tmp 81) (Operand.tmp 84) (Operand.const (Value.bool false)), type := 4, pos := "ref.go:27", after := #[{ on := 4, ground := Ground.data }, { on := 7, ground := Ground.data }], guard := none }) (v := .bool true) rfl (by kernel_rfl) (by kernel_rfl) (by kernel_rfl) (fun _ _ _ h => h) (Or.inl ⟨by rfl, ?q60h⟩) hHeld ?q60r
        case q60h => (intro wq hSw; clear hSw; go_simp; try with_reducible rfl)
        try simp only [Act.put, List.setIfInBounds_toArray, List.set_cons_zero, List.set_cons_succ]
        refine wpAnyH_take (i := 9) (oi := { dst := some 86, op := Op.move (Operand.tmp 85), type := 4, pos := "ref.go:27", after := #[{ on := 8, ground := Ground.data }, { on := 4, ground := Ground.chain }], guard := none }) (v := ?q61v) rfl (by kernel_rfl) (by kernel_rfl) (by kernel_rfl) (fun _ _ _ h => h) (Or.inl ⟨by rfl, ?q61h⟩) hHeld ?q61r
        case q61h => (intro wq hSw; clear hSw; go_simp; try with_reducible rfl)
        try simp only [Act.put, List.setIfInBounds_toArray, List.set_cons_zero, List.set_cons_succ]
        refine wpAnyH_take (i := 10) (oi := { dst := some 87, op := Op.fieldAddr 28 (Operand.tmp 1) 3, type := 0, pos := "ref.go:27", after := #[{ on := 9, ground := Ground.guard }, { on := 14, ground := Ground.gcOnly Departure.lateStores }], guard := some (9, true) }) (v := ?q62v) rfl (by kernel_rfl) (by kernel_rfl) (by kernel_rfl) (fun _ _ _ h => h) (Or.inl ⟨by rfl, ?q62h⟩) hHeld ?q62r
        case q62h => (intro wq hSw; clear hSw; go_simp; try with_reducible rfl)
        try simp only [Act.put, List.setIfInBounds_toArray, List.set_cons_zero, List.set_cons_succ]
        refine wpAnyH_take (i := 11) (oi := { dst := some 88, op := Op.load 3 (Operand.tmp 87), type := 3, pos := "ref.go:27", after := #[{ on := 10, ground := Ground.data }, { on := 9, ground := Ground.guard }, { on := 14, ground := Ground.gcOnly Departure.lateStores }], guard := some (9, true) }) (v := .int .i64 p) rfl (by kernel_rfl) (by kernel_rfl) (by kernel_rfl) (fun _ _ _ h => h) (Or.inl ⟨by rfl, ?q63h⟩) hHeld ?q63r
        case q63h => (intro wq hSw; have lq := hSw.at 0 rfl 3 (v := .int .i64 p) rfl; clear hSw; go_simp; try with_reducible rfl)
        try simp only [Act.put, List.setIfInBounds_toArray, List.set_cons_zero, List.set_cons_succ]
        refine wpAnyH_take (i := 12) (oi := { dst := some 89, op := Op.binOp BinOp.gtr 3 (Operand.tmp 88) (Operand.const (Value.int IntKind.i64 0)) 3, type := 4, pos := "ref.go:27", after := #[{ on := 11, ground := Ground.data }, { on := 9, ground := Ground.guard }, { on := 14, ground := Ground.gcOnly Departure.lateStores }], guard := some (9, true) }) (v := .bool true) rfl (by kernel_rfl) (by kernel_rfl) (by kernel_rfl) (fun _ _ _ h => h) (Or.inl ⟨by rfl, ?q64h⟩) hHeld ?q64r
        case q64h => (intro wq hSw; clear hSw; go_simp; try with_reducible rfl)
        try simp only [Act.put, List.setIfInBounds_toArray, List.set_cons_zero, List.set_cons_succ]
        refine wpAnyH_take (i := 13) (oi := { dst := some 90, op := Op.pick (Operand.tmp 86) (Operand.tmp 89) (Operand.const (Value.bool false)), type := 4, pos := "ref.go:27", after := #[{ on := 9, ground := Ground.data }, { on := 12, ground := Ground.data }, { on := 14, ground := Ground.gcOnly Departure.lateStores }], guard := none }) (v := .bool true) rfl (by kernel_rfl) (by kernel_rfl) (by kernel_rfl) (fun _ _ _ h => h) (Or.inl ⟨by rfl, ?q65h⟩) hHeld ?q65r
        case q65h => (intro wq hSw; clear hSw; go_simp; try with_reducible rfl)
        try simp only [Act.put, List.setIfInBounds_toArray, List.set_cons_zero, List.set_cons_succ]
        refine wpAnyH_ready (rs := [14]) (by kernel_rfl) (by simp) ?_
        refine AllReadyH.cons (o := { dst := none, op := Op.store 28 (Operand.tmp 2) (Operand.tmp 77), type := 0, pos := "ref.go:27", after := #[{ on := 0, ground := Ground.data }, { on := 9, ground := Ground.chain }, { on := 0, ground := Ground.phase }, { on := 1, ground := Ground.textOnly Departure.lateStores }, { on := 2, ground := Ground.textOnly Departure.lateStores }, { on := 3, ground := Ground.textOnly Departure.lateStores }, { on := 4, ground := Ground.textOnly Departure.lateStores }, { on := 5, ground := Ground.textOnly Departure.lateStores }, { on := 6, ground := Ground.textOnly Departure.lateStores }, { on := 7, ground := Ground.textOnly Departure.lateStores }, { on := 8, ground := Ground.textOnly Departure.lateStores }, { on := 9, ground := Ground.textOnly Departure.lateStores }, { on := 10, ground := Ground.textOnly Departure.lateStores }, { on := 11, ground := Ground.textOnly Departure.lateStores }, { on := 12, ground := Ground.textOnly Departure.lateStores }, { on := 13, ground := Ground.textOnly Departure.lateStores }], guard := none }) rfl (fun K hK => ?_) (AllReadyH.nil)
        rw [if_pos (by rfl)]
        refine wp_store_ob 28 (.tmp 2) (.tmp 77) B1 (enCells ⟨l, 5, t, p, 0, 0, chNil, emptyS⟩) (enCells enNil) 28 rfl rfl rfl rfl (((HS5.out).drew).get 1 rfl) (info_en) (rfl) ((oneCell_en _)) ?_
        have HS6 : Hid (Hp w [.ob (w.heap.size) 28 (enCells ⟨l, 5, t, p, g, r, c, s⟩), .ob B1 28 (enCells ⟨l, 5, t, p, 0, 0, chNil, emptyS⟩), .ob B2 28 (enCells ⟨l, 5, t, p, 0, 0, chNil, emptyS⟩)] (w6.drew.setRow B1 (enCells ⟨l, 5, t, p, 0, 0, chNil, emptyS⟩).toArray)) := ((HS5.out).drew).row 1 rfl (enCells ⟨l, 5, t, p, 0, 0, chNil, emptyS⟩)
        refine hK.out _ _ (HS6.out.pick [0, 2] rfl) (fun hHeld => ?_)
        clear hK K
        generalize (w6.drew.setRow B1 (enCells ⟨l, 5, t, p, 0, 0, chNil, emptyS⟩).toArray) = w7 at *
        try simp only [Act.put, List.setIfInBounds_toArray, List.set_cons_zero, List.set_cons_succ]
        refine wpAnyH_take (i := 15) (oi := { dst := some 3, op := Op.assign (Operand.tmp 90), type := 4, pos := "ref.go:27", after := #[{ on := 13, ground := Ground.data }, { on := 14, ground := Ground.chain }, { on := 0, ground := Ground.phase }, { on := 1, ground := Ground.phase }, { on := 2, ground := Ground.phase }, { on := 3, ground := Ground.phase }, { on := 4, ground := Ground.phase }, { on := 5, ground := Ground.phase }, { on := 6, ground := Ground.phase }, { on := 7, ground := Ground.phase }, { on := 8, ground := Ground.phase }, { on := 9, ground := Ground.phase }, { on := 10, ground := Ground.phase }, { on := 11, ground := Ground.phase }, { on := 12, ground := Ground.phase }, { on := 13, ground := Ground.phase }, { on := 14, ground := Ground.phase }], guard := none }) (v := ?q66v) rfl (by kernel_rfl) (by kernel_rfl) (by kernel_rfl) (fun _ _ _ h => h) (Or.inl ⟨by rfl, ?q66h⟩) hHeld ?q66r
        case q66h => (intro wq hSw; clear hSw; go_simp; try with_reducible rfl)
        try simp only [Act.put, List.setIfInBounds_toArray, List.set_cons_zero, List.set_cons_succ]
        refine wpAnyH_done (by kernel_rfl) ?_ _
        go_wp2_with fail
        refine bodyPost_ret (results_ob_tmp Try.results32 _ _ B1 (enCells ⟨l, 5, t, p, 0, 0, chNil, emptyS⟩) 28 _ rfl ((HS6.out).get 1 rfl) HUE.out rfl info_en) rfl ?_
        exact ShPost.mk rfl (by show (isTxB t && posB p) = _; simp [isTxB, posB]; omega) (HS6.out).old
set_option maxHeartbeats 8000000 in
theorem shape_k6 (l t p g r : Int) (c : Chg) (s : ByteArray) (w : World) (hc : GoodCh c) (hs : s.size ≤ maxLen) : Calls Try.prog 32 #[.agg (enCells ⟨l, 6, t, p, g, r, c, s⟩).toArray] w (ShPost ⟨l, 6, t, p, g, r, c, s⟩ w) := by
  have HC := Lib.hid hc
  have HBl := Lib.hid hs
  obtain ⟨fsHUE, huHUE⟩ := under_en
  have HUE := Lib.hid huHUE
  clear huHUE
  obtain ⟨fsHUC, huHUC⟩ := under_ch
  have HUC := Lib.hid huHUC
  clear huHUC
  have h1 := ((Hp.start w).put 28 (enCells ⟨l, 6, t, p, g, r, c, s⟩)).put 28 (enCells enNil)
  simp only [List.nil_append, List.cons_append, World.size_alloc] at h1
  have HS0 : Hid (Hp w [.ob w.heap.size 28 (enCells ⟨l, 6, t, p, g, r, c, s⟩), .ob (w.heap.size + 1) 28 (enCells enNil)] ((w.alloc (.cells (enCells ⟨l, 6, t, p, g, r, c, s⟩).toArray 28)).alloc (.cells #[.int .i64 0, .int .i64 0, .int .i64 0, .int .i64 0, .int .i64 0, .int .i64 0, .int .i64 0, .int .i64 0, .bool false, .string ⟨#[]⟩, .bool false, .string ⟨#[]⟩, .string ⟨#[]⟩] 28))) := h1
  clear h1 hc hs
  go_enter Try.func32, Try.ntmps32
  go_upto_region 1 with (fail)
  have HS2 : Hid (Hp w [.ob (w.heap.size) 28 (enCells ⟨l, 6, t, p, g, r, c, s⟩), .ob ((w.heap.size + 1)) 28 (enCells enNil)] ((w.alloc (.cells (enCells ⟨l, 6, t, p, g, r, c, s⟩).toArray 28)).alloc (.cells #[.int .i64 0, .int .i64 0, .int .i64 0, .int .i64 0, .int .i64 0, .int .i64 0, .int .i64 0, .int .i64 0, .bool false, .string ⟨#[]⟩, .bool false, .string ⟨#[]⟩, .string ⟨#[]⟩] 28))) := HS0.out
  clear HS0
  generalize (w.alloc (.cells (enCells ⟨l, 6, t, p, g, r, c, s⟩).toArray 28)).alloc (.cells #[.int .i64 0, .int .i64 0, .int .i64 0, .int .i64 0, .int .i64 0, .int .i64 0, .int .i64 0, .int .i64 0, .bool false, .string ⟨#[]⟩, .bool false, .string ⟨#[]⟩, .string ⟨#[]⟩] 28) = w3 at *
  generalize (w.heap.size + 1) = B1 at *
  have c0 : w3.cell? ⟨(w.heap.size), 0, none⟩ = some (.int .i64 l) := (HS2.out).at 0 rfl 0 rfl
  have c1 : w3.cell? ⟨(w.heap.size), 1, none⟩ = some (.int .i64 6) := (HS2.out).at 0 rfl 1 rfl
  go_upto_region 2 with (first | ((with_reducible refine wpList_build_v (d := some 10) 28 (.agg (enCells ⟨l, 6, 0, 0, 0, 0, chNil, emptyS⟩).toArray) ?_ ?_); (intro W; simp only [List.map_toArray, List.map_cons, List.map_nil]; exact build_two l 6 W); simp only [Act.put, List.setIfInBounds_toArray, List.set_cons_zero, List.set_cons_succ]) | ((with_reducible refine wpList_alloc_ob 28 (enCells enNil) ?_ ?_); (exact alloc_en); simp only [Act.put, List.setIfInBounds_toArray, List.set_cons_zero, List.set_cons_succ]) | ((with_reducible refine wpList_store_ob 28 (.tmp 4) (w3.heap.size) (enCells ⟨l, 6, 0, 0, 0, 0, chNil, emptyS⟩) (enCells enNil) 28 ?_ ?_ ?_ ?_ ?_ ?_ ?_); (exact rfl); (exact rfl); (exact ((HS2.out).put 28 (enCells enNil)).get 2 rfl); (exact info_en); (exact rfl); (exact (oneCell_en _)); skip))
  have HS3 : Hid (Hp w [.ob (w.heap.size) 28 (enCells ⟨l, 6, t, p, g, r, c, s⟩), .ob B1 28 (enCells enNil), .ob (w3.heap.size) 28 (enCells ⟨l, 6, 0, 0, 0, 0, chNil, emptyS⟩)] ((w3.alloc (.cells (enCells enNil).toArray 28)).setRow (w3.heap.size) (enCells ⟨l, 6, 0, 0, 0, 0, chNil, emptyS⟩).toArray)) := ((HS2.out).put 28 (enCells enNil)).row 2 rfl (enCells ⟨l, 6, 0, 0, 0, 0, chNil, emptyS⟩)
  clear HS2
  generalize ((w3.alloc (.cells (enCells enNil).toArray 28)).setRow (w3.heap.size) (enCells ⟨l, 6, 0, 0, 0, 0, chNil, emptyS⟩).toArray) = w4 at *
  generalize w3.heap.size = B2 at *
  clear c0 c1
  have c1 : w4.cell? ⟨(w.heap.size), 1, none⟩ = some (.int .i64 6) := (HS3.out).at 0 rfl 1 rfl
  go_upto_region 18 with (fail)
  clear c1
  have c12 : w4.cell? ⟨(w.heap.size), 12, none⟩ = some (.string s) := (HS3.out).at 0 rfl 12 rfl
  go_upto_region 19 with (first | ((with_reducible refine wpList_store_fld 9 (.tmp 96) (.tmp 95) B2 12 (.string s) ([.string s]) (enCells ⟨l, 6, 0, 0, 0, 0, chNil, emptyS⟩) (enCells ⟨l, 6, 0, 0, 0, 0, chNil, s⟩) 28 ?_ ?_ ?_ ?_ ?_ ?_ ?_ ?_ ?_); (exact rfl); (exact rfl); (exact rfl); (exact (HS3.out).get 2 rfl); (exact (Nat.le_of_ble_eq_true rfl)); (exact info_str1); (exact (one_str _)); (exact rfl); skip))
  have HS4 : Hid (Hp w [.ob (w.heap.size) 28 (enCells ⟨l, 6, t, p, g, r, c, s⟩), .ob B1 28 (enCells enNil), .ob B2 28 (enCells ⟨l, 6, 0, 0, 0, 0, chNil, s⟩)] (w4.setRow B2 (enCells ⟨l, 6, 0, 0, 0, 0, chNil, s⟩).toArray)) := (HS3.out).row 2 rfl (enCells ⟨l, 6, 0, 0, 0, 0, chNil, s⟩)
  clear HS3
  generalize (w4.setRow B2 (enCells ⟨l, 6, 0, 0, 0, 0, chNil, s⟩).toArray) = w5 at *
  clear c12
  have hs : s.size ≤ maxLen := HBl.out
  unfold maxLen at hs
  refine wp_region_held_drew (S := fun w' => Hold w.heap.size [.ob (w.heap.size) 28 (enCells ⟨l, 6, t, p, g, r, c, s⟩), .ob B2 28 (enCells ⟨l, 6, 0, 0, 0, 0, chNil, s⟩)] w') (by kernel_rfl) ((HS4.out).drew.pick [0, 2] rfl) (fun hHeld => ?_)
  refine wpAnyH_take (i := 0) (oi := { dst := some 97, op := Op.load 28 (Operand.tmp 4), type := 28, pos := "ref.go:30", after := #[], guard := none }) rfl (by kernel_rfl) (by kernel_rfl) (by kernel_rfl) (fun _ _ _ h => h) (yieldsIf_load_mid (by rfl) 28 (.tmp 4) rfl B2 0 rfl (enCells ⟨l, 6, 0, 0, 0, 0, chNil, s⟩) _ (fun _ h => h.whole 1 rfl) HUE.out rfl (info_en)) hHeld ?_
  try simp only [Act.put, List.setIfInBounds_toArray, List.set_cons_zero, List.set_cons_succ]
  refine wpAnyH_take (i := 1) (oi := { dst := some 98, op := Op.fieldAddr 28 (Operand.tmp 1) 7, type := 0, pos := "ref.go:30", after := #[], guard := none }) (v := ?q2v) rfl (by kernel_rfl) (by kernel_rfl) (by kernel_rfl) (fun _ _ _ h => h) (Or.inl ⟨by rfl, ?q2h⟩) hHeld ?q2r
  case q2h => (intro wq hSw; clear hSw; go_simp; try with_reducible rfl)
  try simp only [Act.put, List.setIfInBounds_toArray, List.set_cons_zero, List.set_cons_succ]
  refine wpAnyH_take (i := 2) (oi := { dst := some 99, op := Op.load 9 (Operand.tmp 98), type := 9, pos := "ref.go:30", after := #[{ on := 1, ground := Ground.data }], guard := none }) (v := .string s) rfl (by kernel_rfl) (by kernel_rfl) (by kernel_rfl) (fun _ _ _ h => h) (Or.inl ⟨by rfl, ?q3h⟩) hHeld ?q3r
  case q3h => (intro wq hSw; have lq := hSw.at 0 rfl 12 (v := .string s) rfl; clear hSw; go_simp; try with_reducible rfl)
  try simp only [Act.put, List.setIfInBounds_toArray, List.set_cons_zero, List.set_cons_succ]
  refine wpAnyH_take (i := 3) (oi := { dst := some 100, op := Op.call { callee := Callee.builtin Builtin.len, args := #[Operand.tmp 99], argTypes := #[9] }, type := 3, pos := "ref.go:30", after := #[{ on := 2, ground := Ground.data }], guard := none }) (v := ?q4v) rfl (by kernel_rfl) (by kernel_rfl) (by kernel_rfl) (fun _ _ _ h => h) (Or.inl ⟨by rfl, ?q4h⟩) hHeld ?q4r
  case q4h => (intro wq hSw; clear hSw; go_simp; try with_reducible rfl)
  try simp only [Act.put, List.setIfInBounds_toArray, List.set_cons_zero, List.set_cons_succ]
  refine wpAnyH_take (i := 4) (oi := { dst := some 101, op := Op.binOp BinOp.leq 3 (Operand.tmp 100) (Operand.const (Value.int IntKind.i64 8192)) 3, type := 4, pos := "ref.go:30", after := #[{ on := 3, ground := Ground.data }, { on := 5, ground := Ground.gcOnly Departure.lateStores }], guard := none }) (v := ?q5v) rfl (by kernel_rfl) (by kernel_rfl) (by kernel_rfl) (fun _ _ _ h => h) (Or.inl ⟨by rfl, ?q5h⟩) hHeld ?q5r
  case q5h => (intro wq hSw; clear hSw; go_simp; try with_reducible rfl)
  try simp only [Act.put, List.setIfInBounds_toArray, List.set_cons_zero, List.set_cons_succ]
  refine wpAnyH_ready (rs := [5]) (by kernel_rfl) (by simp) ?_
  refine AllReadyH.cons (o := { dst := none, op := Op.store 28 (Operand.tmp 2) (Operand.tmp 97), type := 0, pos := "ref.go:30", after := #[{ on := 0, ground := Ground.data }, { on := 0, ground := Ground.phase }, { on := 1, ground := Ground.textOnly Departure.lateStores }, { on := 2, ground := Ground.textOnly Departure.lateStores }, { on := 3, ground := Ground.textOnly Departure.lateStoresUnsure }, { on := 4, ground := Ground.textOnly Departure.lateStores }], guard := none }) rfl (fun K hK => ?_) (AllReadyH.nil)
  rw [if_pos (by rfl)]
  refine wp_store_ob 28 (.tmp 2) (.tmp 97) B1 (enCells ⟨l, 6, 0, 0, 0, 0, chNil, s⟩) (enCells enNil) 28 rfl rfl rfl rfl (((HS4.out).drew).get 1 rfl) (info_en) (rfl) ((oneCell_en _)) ?_
  have HS5 : Hid (Hp w [.ob (w.heap.size) 28 (enCells ⟨l, 6, t, p, g, r, c, s⟩), .ob B1 28 (enCells ⟨l, 6, 0, 0, 0, 0, chNil, s⟩), .ob B2 28 (enCells ⟨l, 6, 0, 0, 0, 0, chNil, s⟩)] (w5.drew.setRow B1 (enCells ⟨l, 6, 0, 0, 0, 0, chNil, s⟩).toArray)) := ((HS4.out).drew).row 1 rfl (enCells ⟨l, 6, 0, 0, 0, 0, chNil, s⟩)
  refine hK.out _ _ (HS5.out.pick [0, 2] rfl) (fun hHeld => ?_)
  clear hK K
  generalize (w5.drew.setRow B1 (enCells ⟨l, 6, 0, 0, 0, 0, chNil, s⟩).toArray) = w6 at *
  try simp only [Act.put, List.setIfInBounds_toArray, List.set_cons_zero, List.set_cons_succ]
  refine wpAnyH_take (i := 6) (oi := { dst := some 3, op := Op.assign (Operand.tmp 101), type := 4, pos := "ref.go:30", after := #[{ on := 4, ground := Ground.data }, { on := 5, ground := Ground.chain }, { on := 0, ground := Ground.phase }, { on := 1, ground := Ground.phase }, { on := 2, ground := Ground.phase }, { on := 3, ground := Ground.phase }, { on := 4, ground := Ground.phase }, { on := 5, ground := Ground.phase }], guard := none }) (v := ?q6v) rfl (by kernel_rfl) (by kernel_rfl) (by kernel_rfl) (fun _ _ _ h => h) (Or.inl ⟨by rfl, ?q6h⟩) hHeld ?q6r
  case q6h => (intro wq hSw; clear hSw; go_simp; try with_reducible rfl)
  try simp only [Act.put, List.setIfInBounds_toArray, List.set_cons_zero, List.set_cons_succ]
  refine wpAnyH_done (by kernel_rfl) ?_ _
  go_wp2_with fail
  refine bodyPost_ret (results_ob_tmp Try.results32 _ _ B1 (enCells ⟨l, 6, 0, 0, 0, 0, chNil, s⟩) 28 _ rfl ((HS5.out).get 1 rfl) HUE.out rfl info_en) rfl ?_
  exact ShPost.mk rfl (by show blobB s = _; unfold blobB; rw [Bool.eq_iff_iff]; simp; omega) (HS5.out).old
set_option maxHeartbeats 8000000 in
theorem shape_k7 (l t p g r : Int) (c : Chg) (s : ByteArray) (w : World) (hc : GoodCh c) (hs : s.size ≤ maxLen) : Calls Try.prog 32 #[.agg (enCells ⟨l, 7, t, p, g, r, c, s⟩).toArray] w (ShPost ⟨l, 7, t, p, g, r, c, s⟩ w) := by
  have HC := Lib.hid hc
  have HBl := Lib.hid hs
  obtain ⟨fsHUE, huHUE⟩ := under_en
  have HUE := Lib.hid huHUE
  clear huHUE
  obtain ⟨fsHUC, huHUC⟩ := under_ch
  have HUC := Lib.hid huHUC
  clear huHUC
  have h1 := ((Hp.start w).put 28 (enCells ⟨l, 7, t, p, g, r, c, s⟩)).put 28 (enCells enNil)
  simp only [List.nil_append, List.cons_append, World.size_alloc] at h1
  have HS0 : Hid (Hp w [.ob w.heap.size 28 (enCells ⟨l, 7, t, p, g, r, c, s⟩), .ob (w.heap.size + 1) 28 (enCells enNil)] ((w.alloc (.cells (enCells ⟨l, 7, t, p, g, r, c, s⟩).toArray 28)).alloc (.cells #[.int .i64 0, .int .i64 0, .int .i64 0, .int .i64 0, .int .i64 0, .int .i64 0, .int .i64 0, .int .i64 0, .bool false, .string ⟨#[]⟩, .bool false, .string ⟨#[]⟩, .string ⟨#[]⟩] 28))) := h1
  clear h1 hc hs
  go_enter Try.func32, Try.ntmps32
  go_upto_region 1 with (fail)
  have HS2 : Hid (Hp w [.ob (w.heap.size) 28 (enCells ⟨l, 7, t, p, g, r, c, s⟩), .ob ((w.heap.size + 1)) 28 (enCells enNil)] ((w.alloc (.cells (enCells ⟨l, 7, t, p, g, r, c, s⟩).toArray 28)).alloc (.cells #[.int .i64 0, .int .i64 0, .int .i64 0, .int .i64 0, .int .i64 0, .int .i64 0, .int .i64 0, .int .i64 0, .bool false, .string ⟨#[]⟩, .bool false, .string ⟨#[]⟩, .string ⟨#[]⟩] 28))) := HS0.out
  clear HS0
  generalize (w.alloc (.cells (enCells ⟨l, 7, t, p, g, r, c, s⟩).toArray 28)).alloc (.cells #[.int .i64 0, .int .i64 0, .int .i64 0, .int .i64 0, .int .i64 0, .int .i64 0, .int .i64 0, .int .i64 0, .bool false, .string ⟨#[]⟩, .bool false, .string ⟨#[]⟩, .string ⟨#[]⟩] 28) = w3 at *
  generalize (w.heap.size + 1) = B1 at *
  have c0 : w3.cell? ⟨(w.heap.size), 0, none⟩ = some (.int .i64 l) := (HS2.out).at 0 rfl 0 rfl
  have c1 : w3.cell? ⟨(w.heap.size), 1, none⟩ = some (.int .i64 7) := (HS2.out).at 0 rfl 1 rfl
  go_upto_region 2 with (first | ((with_reducible refine wpList_build_v (d := some 10) 28 (.agg (enCells ⟨l, 7, 0, 0, 0, 0, chNil, emptyS⟩).toArray) ?_ ?_); (intro W; simp only [List.map_toArray, List.map_cons, List.map_nil]; exact build_two l 7 W); simp only [Act.put, List.setIfInBounds_toArray, List.set_cons_zero, List.set_cons_succ]) | ((with_reducible refine wpList_alloc_ob 28 (enCells enNil) ?_ ?_); (exact alloc_en); simp only [Act.put, List.setIfInBounds_toArray, List.set_cons_zero, List.set_cons_succ]) | ((with_reducible refine wpList_store_ob 28 (.tmp 4) (w3.heap.size) (enCells ⟨l, 7, 0, 0, 0, 0, chNil, emptyS⟩) (enCells enNil) 28 ?_ ?_ ?_ ?_ ?_ ?_ ?_); (exact rfl); (exact rfl); (exact ((HS2.out).put 28 (enCells enNil)).get 2 rfl); (exact info_en); (exact rfl); (exact (oneCell_en _)); skip))
  have HS3 : Hid (Hp w [.ob (w.heap.size) 28 (enCells ⟨l, 7, t, p, g, r, c, s⟩), .ob B1 28 (enCells enNil), .ob (w3.heap.size) 28 (enCells ⟨l, 7, 0, 0, 0, 0, chNil, emptyS⟩)] ((w3.alloc (.cells (enCells enNil).toArray 28)).setRow (w3.heap.size) (enCells ⟨l, 7, 0, 0, 0, 0, chNil, emptyS⟩).toArray)) := ((HS2.out).put 28 (enCells enNil)).row 2 rfl (enCells ⟨l, 7, 0, 0, 0, 0, chNil, emptyS⟩)
  clear HS2
  generalize ((w3.alloc (.cells (enCells enNil).toArray 28)).setRow (w3.heap.size) (enCells ⟨l, 7, 0, 0, 0, 0, chNil, emptyS⟩).toArray) = w4 at *
  generalize w3.heap.size = B2 at *
  clear c0 c1
  have c1 : w4.cell? ⟨(w.heap.size), 1, none⟩ = some (.int .i64 7) := (HS3.out).at 0 rfl 1 rfl
  go_upto_region 21 with (fail)
  clear c1
  refine wp_region_held_drew (S := fun w' => Hold w.heap.size [.ob (w.heap.size) 28 (enCells ⟨l, 7, t, p, g, r, c, s⟩)] w') (by kernel_rfl) ((HS3.out).drew.pick [0] rfl) (fun hHeld => ?_)
  refine wpAnyH_take (i := 0) (oi := { dst := some 104, op := Op.fieldAddr 28 (Operand.tmp 1) 5, type := 0, pos := "ref.go:32", after := #[], guard := none }) (v := ?q1v) rfl (by kernel_rfl) (by kernel_rfl) (by kernel_rfl) (fun _ _ _ h => h) (Or.inl ⟨by rfl, ?q1h⟩) hHeld ?q1r
  case q1h => (intro wq hSw; clear hSw; go_simp; try with_reducible rfl)
  try simp only [Act.put, List.setIfInBounds_toArray, List.set_cons_zero, List.set_cons_succ]
  refine wpAnyH_take (i := 1) (oi := { dst := some 105, op := Op.load 3 (Operand.tmp 104), type := 3, pos := "ref.go:32", after := #[{ on := 0, ground := Ground.data }], guard := none }) (v := .int .i64 r) rfl (by kernel_rfl) (by kernel_rfl) (by kernel_rfl) (fun _ _ _ h => h) (Or.inl ⟨by rfl, ?q2h⟩) hHeld ?q2r
  case q2h => (intro wq hSw; have lq := hSw.at 0 rfl 5 (v := .int .i64 r) rfl; clear hSw; go_simp; try with_reducible rfl)
  try simp only [Act.put, List.setIfInBounds_toArray, List.set_cons_zero, List.set_cons_succ]
  refine wpAnyH_take (i := 2) (oi := { dst := some 106, op := Op.fieldAddr 28 (Operand.tmp 1) 6, type := 0, pos := "ref.go:32", after := #[{ on := 6, ground := Ground.gcOnly Departure.lateStores }], guard := none }) (v := ?q3v) rfl (by kernel_rfl) (by kernel_rfl) (by kernel_rfl) (fun _ _ _ h => h) (Or.inl ⟨by rfl, ?q3h⟩) hHeld ?q3r
  case q3h => (intro wq hSw; clear hSw; go_simp; try with_reducible rfl)
  try simp only [Act.put, List.setIfInBounds_toArray, List.set_cons_zero, List.set_cons_succ]
  refine wpAnyH_take (i := 3) (oi := { dst := some 107, op := Op.fieldAddr 26 (Operand.tmp 106) 0, type := 0, pos := "ref.go:32", after := #[{ on := 2, ground := Ground.data }, { on := 6, ground := Ground.gcOnly Departure.lateStores }], guard := none }) (v := ?q4v) rfl (by kernel_rfl) (by kernel_rfl) (by kernel_rfl) (fun _ _ _ h => h) (Or.inl ⟨by rfl, ?q4h⟩) hHeld ?q4r
  case q4h => (intro wq hSw; clear hSw; go_simp; try with_reducible rfl)
  try simp only [Act.put, List.setIfInBounds_toArray, List.set_cons_zero, List.set_cons_succ]
  refine wpAnyH_take (i := 4) (oi := { dst := some 108, op := Op.load 3 (Operand.tmp 107), type := 3, pos := "ref.go:32", after := #[{ on := 3, ground := Ground.data }, { on := 6, ground := Ground.gcOnly Departure.lateStores }], guard := none }) (v := .int .i64 c.page) rfl (by kernel_rfl) (by kernel_rfl) (by kernel_rfl) (fun _ _ _ h => h) (Or.inl ⟨by rfl, ?q5h⟩) hHeld ?q5r
  case q5h => (intro wq hSw; have lq := hSw.at 0 rfl 6 (v := .int .i64 c.page) rfl; clear hSw; go_simp; try with_reducible rfl)
  try simp only [Act.put, List.setIfInBounds_toArray, List.set_cons_zero, List.set_cons_succ]
  refine wpAnyH_take (i := 5) (oi := { dst := some 109, op := Op.fieldAddr 28 (Operand.tmp 4) 5, type := 0, pos := "ref.go:32", after := #[{ on := 0, ground := Ground.phase }, { on := 1, ground := Ground.phase }, { on := 2, ground := Ground.textOnly Departure.lateStores }, { on := 3, ground := Ground.textOnly Departure.lateStores }, { on := 4, ground := Ground.textOnly Departure.lateStores }], guard := none }) (v := ?q6v) rfl (by kernel_rfl) (by kernel_rfl) (by kernel_rfl) (fun _ _ _ h => h) (Or.inl ⟨by rfl, ?q6h⟩) hHeld ?q6r
  case q6h => (intro wq hSw; clear hSw; go_simp; try with_reducible rfl)
  try simp only [Act.put, List.setIfInBounds_toArray, List.set_cons_zero, List.set_cons_succ]
  refine wpAnyH_ready (rs := [6]) (by kernel_rfl) (by simp) ?_
  refine AllReadyH.cons (o := { dst := none, op := Op.store 3 (Operand.tmp 109) (Operand.tmp 105), type := 0, pos := "ref.go:32", after := #[{ on := 5, ground := Ground.data }, { on := 1, ground := Ground.data }, { on := 0, ground := Ground.phase }, { on := 1, ground := Ground.phase }, { on := 2, ground := Ground.textOnly Departure.lateStores }, { on := 3, ground := Ground.textOnly Departure.lateStores }, { on := 4, ground := Ground.textOnly Departure.lateStores }], guard := none }) rfl (fun K hK => ?_) (AllReadyH.nil)
  rw [if_pos (by rfl)]
  refine wp_store_fld 3 (.tmp 109) (.tmp 105) B2 5 (.int .i64 r) ([.int .i64 r]) (enCells ⟨l, 7, 0, 0, 0, 0, chNil, emptyS⟩) (enCells ⟨l, 7, 0, 0, 0, r, chNil, emptyS⟩) 28 rfl rfl rfl rfl rfl (((HS3.out).drew).get 2 rfl) (Nat.le_of_ble_eq_true rfl) (info_int1) ((one_int _ _)) rfl ?_
  have HS4 : Hid (Hp w [.ob (w.heap.size) 28 (enCells ⟨l, 7, t, p, g, r, c, s⟩), .ob B1 28 (enCells enNil), .ob B2 28 (enCells ⟨l, 7, 0, 0, 0, r, chNil, emptyS⟩)] (w4.drew.setRow B2 (enCells ⟨l, 7, 0, 0, 0, r, chNil, emptyS⟩).toArray)) := ((HS3.out).drew).row 2 rfl (enCells ⟨l, 7, 0, 0, 0, r, chNil, emptyS⟩)
  refine hK.out _ _ (HS4.out.pick [0] rfl) (fun hHeld => ?_)
  clear hK K
  generalize (w4.drew.setRow B2 (enCells ⟨l, 7, 0, 0, 0, r, chNil, emptyS⟩).toArray) = w5 at *
  try simp only [Act.put, List.setIfInBounds_toArray, List.set_cons_zero, List.set_cons_succ]
  refine wpAnyH_take (i := 7) (oi := { dst := some 110, op := Op.fieldAddr 28 (Operand.tmp 4) 6, type := 0, pos := "ref.go:32", after := #[{ on := 0, ground := Ground.phase }, { on := 1, ground := Ground.phase }, { on := 2, ground := Ground.phase }, { on := 3, ground := Ground.phase }, { on := 4, ground := Ground.phase }, { on := 5, ground := Ground.phase }, { on := 6, ground := Ground.phase }], guard := none }) (v := ?q7v) rfl (by kernel_rfl) (by kernel_rfl) (by kernel_rfl) (fun _ _ _ h => h) (Or.inl ⟨by rfl, ?q7h⟩) hHeld ?q7r
  case q7h => (intro wq hSw; clear hSw; go_simp; try with_reducible rfl)
  try simp only [Act.put, List.setIfInBounds_toArray, List.set_cons_zero, List.set_cons_succ]
  refine wpAnyH_take (i := 8) (oi := { dst := some 111, op := Op.fieldAddr 26 (Operand.tmp 110) 0, type := 0, pos := "ref.go:32", after := #[{ on := 7, ground := Ground.data }, { on := 0, ground := Ground.phase }, { on := 1, ground := Ground.phase }, { on := 2, ground := Ground.phase }, { on := 3, ground := Ground.phase }, { on := 4, ground := Ground.phase }, { on := 5, ground := Ground.phase }, { on := 6, ground := Ground.phase }], guard := none }) (v := ?q8v) rfl (by kernel_rfl) (by kernel_rfl) (by kernel_rfl) (fun _ _ _ h => h) (Or.inl ⟨by rfl, ?q8h⟩) hHeld ?q8r
  case q8h => (intro wq hSw; clear hSw; go_simp; try with_reducible rfl)
  try simp only [Act.put, List.setIfInBounds_toArray, List.set_cons_zero, List.set_cons_succ]
  refine wpAnyH_ready (rs := [9]) (by kernel_rfl) (by simp) ?_
  refine AllReadyH.cons (o := { dst := none, op := Op.store 3 (Operand.tmp 111) (Operand.tmp 108), type := 0, pos := "ref.go:32", after := #[{ on := 8, ground := Ground.data }, { on := 4, ground := Ground.data }, { on := 6, ground := Ground.chain }, { on := 0, ground := Ground.phase }, { on := 1, ground := Ground.phase }, { on := 2, ground := Ground.phase }, { on := 3, ground := Ground.phase }, { on := 4, ground := Ground.phase }, { on := 5, ground := Ground.phase }, { on := 6, ground := Ground.phase }], guard := none }) rfl (fun K hK => ?_) (AllReadyH.nil)
  rw [if_pos (by rfl)]
  refine wp_store_fld 3 (.tmp 111) (.tmp 108) B2 6 (.int .i64 c.page) ([.int .i64 c.page]) (enCells ⟨l, 7, 0, 0, 0, r, chNil, emptyS⟩) (enCells ⟨l, 7, 0, 0, 0, r, ⟨c.page, 0, emptyCl, emptyCl⟩, emptyS⟩) 28 rfl rfl rfl rfl rfl ((HS4.out).get 2 rfl) (Nat.le_of_ble_eq_true rfl) (info_int1) ((one_int _ _)) rfl ?_
  have HS5 : Hid (Hp w [.ob (w.heap.size) 28 (enCells ⟨l, 7, t, p, g, r, c, s⟩), .ob B1 28 (enCells enNil), .ob B2 28 (enCells ⟨l, 7, 0, 0, 0, r, ⟨c.page, 0, emptyCl, emptyCl⟩, emptyS⟩)] (w5.setRow B2 (enCells ⟨l, 7, 0, 0, 0, r, ⟨c.page, 0, emptyCl, emptyCl⟩, emptyS⟩).toArray)) := (HS4.out).row 2 rfl (enCells ⟨l, 7, 0, 0, 0, r, ⟨c.page, 0, emptyCl, emptyCl⟩, emptyS⟩)
  refine hK.out _ _ (HS5.out.pick [0] rfl) (fun hHeld => ?_)
  clear hK K
  generalize (w5.setRow B2 (enCells ⟨l, 7, 0, 0, 0, r, ⟨c.page, 0, emptyCl, emptyCl⟩, emptyS⟩).toArray) = w6 at *
  try simp only [Act.put, List.setIfInBounds_toArray, List.set_cons_zero, List.set_cons_succ]
  refine wpAnyH_done (by kernel_rfl) ?_ _
  by_cases a1 : 0 ≤ c.page
  case neg =>
    go_upto_region 22 with (fail)
    refine wp_region_held_drew (S := fun w' => Hold w.heap.size [.ob (w.heap.size) 28 (enCells ⟨l, 7, t, p, g, r, c, s⟩), .ob B2 28 (enCells ⟨l, 7, 0, 0, 0, r, ⟨c.page, 0, emptyCl, emptyCl⟩, emptyS⟩)] w') (by kernel_rfl) ((HS5.out).drew.pick [0, 2] rfl) (fun hHeld => ?_)
    refine wpAnyH_take (i := 0) (oi := { dst := some 112, op := Op.load 28 (Operand.tmp 4), type := 28, pos := "ref.go:33", after := #[], guard := none }) rfl (by kernel_rfl) (by kernel_rfl) (by kernel_rfl) (fun _ _ _ h => h) (yieldsIf_load_mid (by rfl) 28 (.tmp 4) rfl B2 0 rfl (enCells ⟨l, 7, 0, 0, 0, r, ⟨c.page, 0, emptyCl, emptyCl⟩, emptyS⟩) _ (fun _ h => h.whole 1 rfl) HUE.out rfl (info_en)) hHeld ?_
    try simp only [Act.put, List.setIfInBounds_toArray, List.set_cons_zero, List.set_cons_succ]
    refine wpAnyH_take (i := 1) (oi := { dst := some 113, op := Op.fieldAddr 28 (Operand.tmp 1) 6, type := 0, pos := "ref.go:33", after := #[], guard := none }) (v := ?q10v) rfl (by kernel_rfl) (by kernel_rfl) (by kernel_rfl) (fun _ _ _ h => h) (Or.inl ⟨by rfl, ?q10h⟩) hHeld ?q10r
    case q10h => (intro wq hSw; clear hSw; go_simp; try with_reducible rfl)
    try simp only [Act.put, List.setIfInBounds_toArray, List.set_cons_zero, List.set_cons_succ]
    refine wpAnyH_take (i := 2) (oi := { dst := some 114, op := Op.fieldAddr 26 (Operand.tmp 113) 0, type := 0, pos := "ref.go:33", after := #[{ on := 1, ground := Ground.data }], guard := none }) (v := ?q11v) rfl (by kernel_rfl) (by kernel_rfl) (by kernel_rfl) (fun _ _ _ h => h) (Or.inl ⟨by rfl, ?q11h⟩) hHeld ?q11r
    case q11h => (intro wq hSw; clear hSw; go_simp; try with_reducible rfl)
    try simp only [Act.put, List.setIfInBounds_toArray, List.set_cons_zero, List.set_cons_succ]
    refine wpAnyH_take (i := 3) (oi := { dst := some 115, op := Op.load 3 (Operand.tmp 114), type := 3, pos := "ref.go:33", after := #[{ on := 2, ground := Ground.data }], guard := none }) (v := .int .i64 c.page) rfl (by kernel_rfl) (by kernel_rfl) (by kernel_rfl) (fun _ _ _ h => h) (Or.inl ⟨by rfl, ?q12h⟩) hHeld ?q12r
    case q12h => (intro wq hSw; have lq := hSw.at 0 rfl 6 (v := .int .i64 c.page) rfl; clear hSw; go_simp; try with_reducible rfl)
    try simp only [Act.put, List.setIfInBounds_toArray, List.set_cons_zero, List.set_cons_succ]
    refine wpAnyH_take (i := 4) (oi := { dst := some 116, op := Op.binOp BinOp.geq 3 (Operand.tmp 115) (Operand.const (Value.int IntKind.i64 0)) 3, type := 4, pos := "ref.go:33", after := #[{ on := 3, ground := Ground.data }], guard := none }) (v := .bool false) rfl (by kernel_rfl) (by kernel_rfl) (by kernel_rfl) (fun _ _ _ h => h) (Or.inl ⟨by rfl, ?q13h⟩) hHeld ?q13r
    case q13h => (intro wq hSw; clear hSw; go_simp; try with_reducible rfl)
    try simp only [Act.put, List.setIfInBounds_toArray, List.set_cons_zero, List.set_cons_succ]
    refine wpAnyH_take (i := 5) (oi := { dst := some 117, op := Op.move (Operand.tmp 116), type := 4, pos := "ref.go:33", after := #[{ on := 4, ground := Ground.data }], guard := none }) (v := ?q14v) rfl (by kernel_rfl) (by kernel_rfl) (by kernel_rfl) (fun _ _ _ h => h) (Or.inl ⟨by rfl, ?q14h⟩) hHeld ?q14r
    case q14h => (intro wq hSw; clear hSw; go_simp; try with_reducible rfl)
    try simp only [Act.put, List.setIfInBounds_toArray, List.set_cons_zero, List.set_cons_succ]
    refine wpAnyH_take (i := 6) (oi := { dst := some 118, op := Op.fieldAddr 28 (Operand.tmp 1) 6, type := 0, pos := "ref.go:33", after := #[{ on := 5, ground := Ground.guard }, { on := 11, ground := Ground.gcOnly Departure.lateStores }], guard := some (5, true) }) (v := undef) rfl (by kernel_rfl) (by kernel_rfl) (by kernel_rfl) (fun _ _ _ h => h) (Or.inr ⟨by rfl, rfl⟩) hHeld ?_
    try simp only [Act.put, List.setIfInBounds_toArray, List.set_cons_zero, List.set_cons_succ]
    refine wpAnyH_take (i := 7) (oi := { dst := some 119, op := Op.fieldAddr 26 (Operand.tmp 118) 0, type := 0, pos := "ref.go:33", after := #[{ on := 6, ground := Ground.data }, { on := 5, ground := Ground.guard }, { on := 11, ground := Ground.gcOnly Departure.lateStores }], guard := some (5, true) }) (v := undef) rfl (by kernel_rfl) (by kernel_rfl) (by kernel_rfl) (fun _ _ _ h => h) (Or.inr ⟨by rfl, rfl⟩) hHeld ?_
    try simp only [Act.put, List.setIfInBounds_toArray, List.set_cons_zero, List.set_cons_succ]
    refine wpAnyH_take (i := 8) (oi := { dst := some 120, op := Op.load 3 (Operand.tmp 119), type := 3, pos := "ref.go:33", after := #[{ on := 7, ground := Ground.data }, { on := 5, ground := Ground.guard }, { on := 11, ground := Ground.gcOnly Departure.lateStores }], guard := some (5, true) }) (v := undef) rfl (by kernel_rfl) (by kernel_rfl) (by kernel_rfl) (fun _ _ _ h => h) (Or.inr ⟨by rfl, rfl⟩) hHeld ?_
    try simp only [Act.put, List.setIfInBounds_toArray, List.set_cons_zero, List.set_cons_succ]
    refine wpAnyH_take (i := 9) (oi := { dst := some 121, op := Op.binOp BinOp.lss 3 (Operand.tmp 120) (Operand.const (Value.int IntKind.i64 64)) 3, type := 4, pos := "ref.go:33", after := #[{ on := 8, ground := Ground.data }, { on := 5, ground := Ground.guard }, { on := 11, ground := Ground.gcOnly Departure.lateStores }], guard := some (5, true) }) (v := undef) rfl (by kernel_rfl) (by kernel_rfl) (by kernel_rfl) (fun _ _ _ h => h) (Or.inr ⟨by rfl, rfl⟩) hHeld ?_
    try simp only [Act.put, List.setIfInBounds_toArray, List.set_cons_zero, List.set_cons_succ]
    refine wpAnyH_take (i := 10) (oi := { dst := some 122, op := Op.pick (Operand.tmp 117) (Operand.tmp 121) (Operand.const (Value.bool false)), type := 4, pos := "ref.go:33", after := #[{ on := 5, ground := Ground.data }, { on := 9, ground := Ground.data }, { on := 11, ground := Ground.gcOnly Departure.lateStores }], guard := none }) (v := .bool false) rfl (by kernel_rfl) (by kernel_rfl) (by kernel_rfl) (fun _ _ _ h => h) (Or.inl ⟨by rfl, ?q19h⟩) hHeld ?q19r
    case q19h => (intro wq hSw; clear hSw; go_simp; try with_reducible rfl)
    try simp only [Act.put, List.setIfInBounds_toArray, List.set_cons_zero, List.set_cons_succ]
    refine wpAnyH_ready (rs := [11]) (by kernel_rfl) (by simp) ?_
    refine AllReadyH.cons (o := { dst := none, op := Op.store 28 (Operand.tmp 2) (Operand.tmp 112), type := 0, pos := "ref.go:33", after := #[{ on := 0, ground := Ground.data }, { on := 5, ground := Ground.chain }, { on := 0, ground := Ground.phase }, { on := 1, ground := Ground.textOnly Departure.lateStores }, { on := 2, ground := Ground.textOnly Departure.lateStores }, { on := 3, ground := Ground.textOnly Departure.lateStores }, { on := 4, ground := Ground.textOnly Departure.lateStores }, { on := 5, ground := Ground.textOnly Departure.lateStores }, { on := 6, ground := Ground.textOnly Departure.lateStores }, { on := 7, ground := Ground.textOnly Departure.lateStores }, { on := 8, ground := Ground.textOnly Departure.lateStores }, { on := 9, ground := Ground.textOnly Departure.lateStores }, { on := 10, ground := Ground.textOnly Departure.lateStores }], guard := none }) rfl (fun K hK => ?_) (AllReadyH.nil)
    rw [if_pos (by rfl)]
    refine wp_store_ob 28 (.tmp 2) (.tmp 112) B1 (enCells ⟨l, 7, 0, 0, 0, r, ⟨c.page, 0, emptyCl, emptyCl⟩, emptyS⟩) (enCells enNil) 28 rfl rfl rfl rfl (((HS5.out).drew).get 1 rfl) (info_en) (rfl) ((oneCell_en _)) ?_
    have HS6 : Hid (Hp w [.ob (w.heap.size) 28 (enCells ⟨l, 7, t, p, g, r, c, s⟩), .ob B1 28 (enCells ⟨l, 7, 0, 0, 0, r, ⟨c.page, 0, emptyCl, emptyCl⟩, emptyS⟩), .ob B2 28 (enCells ⟨l, 7, 0, 0, 0, r, ⟨c.page, 0, emptyCl, emptyCl⟩, emptyS⟩)] (w6.drew.setRow B1 (enCells ⟨l, 7, 0, 0, 0, r, ⟨c.page, 0, emptyCl, emptyCl⟩, emptyS⟩).toArray)) := ((HS5.out).drew).row 1 rfl (enCells ⟨l, 7, 0, 0, 0, r, ⟨c.page, 0, emptyCl, emptyCl⟩, emptyS⟩)
    refine hK.out _ _ (HS6.out.pick [0, 2] rfl) (fun hHeld => ?_)
    clear hK K
    generalize (w6.drew.setRow B1 (enCells ⟨l, 7, 0, 0, 0, r, ⟨c.page, 0, emptyCl, emptyCl⟩, emptyS⟩).toArray) = w7 at *
    try simp only [Act.put, List.setIfInBounds_toArray, List.set_cons_zero, List.set_cons_succ]
    refine wpAnyH_take (i := 12) (oi := { dst := some 3, op := Op.assign (Operand.tmp 122), type := 4, pos := "ref.go:33", after := #[{ on := 10, ground := Ground.data }, { on := 11, ground := Ground.chain }, { on := 0, ground := Ground.phase }, { on := 1, ground := Ground.phase }, { on := 2, ground := Ground.phase }, { on := 3, ground := Ground.phase }, { on := 4, ground := Ground.phase }, { on := 5, ground := Ground.phase }, { on := 6, ground := Ground.phase }, { on := 7, ground := Ground.phase }, { on := 8, ground := Ground.phase }, { on := 9, ground := Ground.phase }, { on := 10, ground := Ground.phase }, { on := 11, ground := Ground.phase }], guard := none }) (v := ?q20v) rfl (by kernel_rfl) (by kernel_rfl) (by kernel_rfl) (fun _ _ _ h => h) (Or.inl ⟨by rfl, ?q20h⟩) hHeld ?q20r
    case q20h => (intro wq hSw; clear hSw; go_simp; try with_reducible rfl)
    try simp only [Act.put, List.setIfInBounds_toArray, List.set_cons_zero, List.set_cons_succ]
    refine wpAnyH_done (by kernel_rfl) ?_ _
    go_wp2_with fail
    refine bodyPost_ret (results_ob_tmp Try.results32 _ _ B1 (enCells ⟨l, 7, 0, 0, 0, r, ⟨c.page, 0, emptyCl, emptyCl⟩, emptyS⟩) 28 _ rfl ((HS6.out).get 1 rfl) HUE.out rfl info_en) rfl ?_
    exact ShPost.mk rfl (by show (decide (0 ≤ c.page) && decide (c.page < 64)) = _; simp; omega) (HS6.out).old
  case pos =>
    by_cases a2 : c.page < 64
    case neg =>
      go_upto_region 22 with (fail)
      refine wp_region_held_drew (S := fun w' => Hold w.heap.size [.ob (w.heap.size) 28 (enCells ⟨l, 7, t, p, g, r, c, s⟩), .ob B2 28 (enCells ⟨l, 7, 0, 0, 0, r, ⟨c.page, 0, emptyCl, emptyCl⟩, emptyS⟩)] w') (by kernel_rfl) ((HS5.out).drew.pick [0, 2] rfl) (fun hHeld => ?_)
      refine wpAnyH_take (i := 0) (oi := { dst := some 112, op := Op.load 28 (Operand.tmp 4), type := 28, pos := "ref.go:33", after := #[], guard := none }) rfl (by kernel_rfl) (by kernel_rfl) (by kernel_rfl) (fun _ _ _ h => h) (yieldsIf_load_mid (by rfl) 28 (.tmp 4) rfl B2 0 rfl (enCells ⟨l, 7, 0, 0, 0, r, ⟨c.page, 0, emptyCl, emptyCl⟩, emptyS⟩) _ (fun _ h => h.whole 1 rfl) HUE.out rfl (info_en)) hHeld ?_
      try simp only [Act.put, List.setIfInBounds_toArray, List.set_cons_zero, List.set_cons_succ]
      refine wpAnyH_take (i := 1) (oi := { dst := some 113, op := Op.fieldAddr 28 (Operand.tmp 1) 6, type := 0, pos := "ref.go:33", after := #[], guard := none }) (v := ?q22v) rfl (by kernel_rfl) (by kernel_rfl) (by kernel_rfl) (fun _ _ _ h => h) (Or.inl ⟨by rfl, ?q22h⟩) hHeld ?q22r
      case q22h => (intro wq hSw; clear hSw; go_simp; try with_reducible rfl)
      try simp only [Act.put, List.setIfInBounds_toArray, List.set_cons_zero, List.set_cons_succ]
      refine wpAnyH_take (i := 2) (oi := { dst := some 114, op := Op.fieldAddr 26 (Operand.tmp 113) 0, type := 0, pos := "ref.go:33", after := #[{ on := 1, ground := Ground.data }], guard := none }) (v := ?q23v) rfl (by kernel_rfl) (by kernel_rfl) (by kernel_rfl) (fun _ _ _ h => h) (Or.inl ⟨by rfl, ?q23h⟩) hHeld ?q23r
      case q23h => (intro wq hSw; clear hSw; go_simp; try with_reducible rfl)
      try simp only [Act.put, List.setIfInBounds_toArray, List.set_cons_zero, List.set_cons_succ]
      refine wpAnyH_take (i := 3) (oi := { dst := some 115, op := Op.load 3 (Operand.tmp 114), type := 3, pos := "ref.go:33", after := #[{ on := 2, ground := Ground.data }], guard := none }) (v := .int .i64 c.page) rfl (by kernel_rfl) (by kernel_rfl) (by kernel_rfl) (fun _ _ _ h => h) (Or.inl ⟨by rfl, ?q24h⟩) hHeld ?q24r
      case q24h => (intro wq hSw; have lq := hSw.at 0 rfl 6 (v := .int .i64 c.page) rfl; clear hSw; go_simp; try with_reducible rfl)
      try simp only [Act.put, List.setIfInBounds_toArray, List.set_cons_zero, List.set_cons_succ]
      refine wpAnyH_take (i := 4) (oi := { dst := some 116, op := Op.binOp BinOp.geq 3 (Operand.tmp 115) (Operand.const (Value.int IntKind.i64 0)) 3, type := 4, pos := "ref.go:33", after := #[{ on := 3, ground := Ground.data }], guard := none }) (v := .bool true) rfl (by kernel_rfl) (by kernel_rfl) (by kernel_rfl) (fun _ _ _ h => h) (Or.inl ⟨by rfl, ?q25h⟩) hHeld ?q25r
      case q25h => (intro wq hSw; clear hSw; go_simp; try with_reducible rfl)
      try simp only [Act.put, List.setIfInBounds_toArray, List.set_cons_zero, List.set_cons_succ]
      refine wpAnyH_take (i := 5) (oi := { dst := some 117, op := Op.move (Operand.tmp 116), type := 4, pos := "ref.go:33", after := #[{ on := 4, ground := Ground.data }], guard := none }) (v := ?q26v) rfl (by kernel_rfl) (by kernel_rfl) (by kernel_rfl) (fun _ _ _ h => h) (Or.inl ⟨by rfl, ?q26h⟩) hHeld ?q26r
      case q26h => (intro wq hSw; clear hSw; go_simp; try with_reducible rfl)
      try simp only [Act.put, List.setIfInBounds_toArray, List.set_cons_zero, List.set_cons_succ]
      refine wpAnyH_take (i := 6) (oi := { dst := some 118, op := Op.fieldAddr 28 (Operand.tmp 1) 6, type := 0, pos := "ref.go:33", after := #[{ on := 5, ground := Ground.guard }, { on := 11, ground := Ground.gcOnly Departure.lateStores }], guard := some (5, true) }) (v := ?q27v) rfl (by kernel_rfl) (by kernel_rfl) (by kernel_rfl) (fun _ _ _ h => h) (Or.inl ⟨by rfl, ?q27h⟩) hHeld ?q27r
      case q27h => (intro wq hSw; clear hSw; go_simp; try with_reducible rfl)
      try simp only [Act.put, List.setIfInBounds_toArray, List.set_cons_zero, List.set_cons_succ]
      refine wpAnyH_take (i := 7) (oi := { dst := some 119, op := Op.fieldAddr 26 (Operand.tmp 118) 0, type := 0, pos := "ref.go:33", after := #[{ on := 6, ground := Ground.data }, { on := 5, ground := Ground.guard }, { on := 11, ground := Ground.gcOnly Departure.lateStores }], guard := some (5, true) }) (v := ?q28v) rfl (by kernel_rfl) (by kernel_rfl) (by kernel_rfl) (fun _ _ _ h => h) (Or.inl ⟨by rfl, ?q28h⟩) hHeld ?q28r
      case q28h => (intro wq hSw; clear hSw; go_simp; try with_reducible rfl)
      try simp only [Act.put, List.setIfInBounds_toArray, List.set_cons_zero, List.set_cons_succ]
      refine wpAnyH_take (i := 8) (oi := { dst := some 120, op := Op.load 3 (Operand.tmp 119), type := 3, pos := "ref.go:33", after := #[{ on := 7, ground := Ground.data }, { on := 5, ground := Ground.guard }, { on := 11, ground := Ground.gcOnly Departure.lateStores }], guard := some (5, true) }) (v := .int .i64 c.page) rfl (by kernel_rfl) (by kernel_rfl) (by kernel_rfl) (fun _ _ _ h => h) (Or.inl ⟨by rfl, ?q29h⟩) hHeld ?q29r
      case q29h => (intro wq hSw; have lq := hSw.at 0 rfl 6 (v := .int .i64 c.page) rfl; clear hSw; go_simp; try with_reducible rfl)
      try simp only [Act.put, List.setIfInBounds_toArray, List.set_cons_zero, List.set_cons_succ]
      refine wpAnyH_take (i := 9) (oi := { dst := some 121, op := Op.binOp BinOp.lss 3 (Operand.tmp 120) (Operand.const (Value.int IntKind.i64 64)) 3, type := 4, pos := "ref.go:33", after := #[{ on := 8, ground := Ground.data }, { on := 5, ground := Ground.guard }, { on := 11, ground := Ground.gcOnly Departure.lateStores }], guard := some (5, true) }) (v := .bool false) rfl (by kernel_rfl) (by kernel_rfl) (by kernel_rfl) (fun _ _ _ h => h) (Or.inl ⟨by rfl, ?q30h⟩) hHeld ?q30r
      case q30h => (intro wq hSw; clear hSw; go_simp; try with_reducible rfl)
      try simp only [Act.put, List.setIfInBounds_toArray, List.set_cons_zero, List.set_cons_succ]
      refine wpAnyH_take (i := 10) (oi := { dst := some 122, op := Op.pick (Operand.tmp 117) (Operand.tmp 121) (Operand.const (Value.bool false)), type := 4, pos := "ref.go:33", after := #[{ on := 5, ground := Ground.data }, { on := 9, ground := Ground.data }, { on := 11, ground := Ground.gcOnly Departure.lateStores }], guard := none }) (v := .bool false) rfl (by kernel_rfl) (by kernel_rfl) (by kernel_rfl) (fun _ _ _ h => h) (Or.inl ⟨by rfl, ?q31h⟩) hHeld ?q31r
      case q31h => (intro wq hSw; clear hSw; go_simp; try with_reducible rfl)
      try simp only [Act.put, List.setIfInBounds_toArray, List.set_cons_zero, List.set_cons_succ]
      refine wpAnyH_ready (rs := [11]) (by kernel_rfl) (by simp) ?_
      refine AllReadyH.cons (o := { dst := none, op := Op.store 28 (Operand.tmp 2) (Operand.tmp 112), type := 0, pos := "ref.go:33", after := #[{ on := 0, ground := Ground.data }, { on := 5, ground := Ground.chain }, { on := 0, ground := Ground.phase }, { on := 1, ground := Ground.textOnly Departure.lateStores }, { on := 2, ground := Ground.textOnly Departure.lateStores }, { on := 3, ground := Ground.textOnly Departure.lateStores }, { on := 4, ground := Ground.textOnly Departure.lateStores }, { on := 5, ground := Ground.textOnly Departure.lateStores }, { on := 6, ground := Ground.textOnly Departure.lateStores }, { on := 7, ground := Ground.textOnly Departure.lateStores }, { on := 8, ground := Ground.textOnly Departure.lateStores }, { on := 9, ground := Ground.textOnly Departure.lateStores }, { on := 10, ground := Ground.textOnly Departure.lateStores }], guard := none }) rfl (fun K hK => ?_) (AllReadyH.nil)
      rw [if_pos (by rfl)]
      refine wp_store_ob 28 (.tmp 2) (.tmp 112) B1 (enCells ⟨l, 7, 0, 0, 0, r, ⟨c.page, 0, emptyCl, emptyCl⟩, emptyS⟩) (enCells enNil) 28 rfl rfl rfl rfl (((HS5.out).drew).get 1 rfl) (info_en) (rfl) ((oneCell_en _)) ?_
      have HS6 : Hid (Hp w [.ob (w.heap.size) 28 (enCells ⟨l, 7, t, p, g, r, c, s⟩), .ob B1 28 (enCells ⟨l, 7, 0, 0, 0, r, ⟨c.page, 0, emptyCl, emptyCl⟩, emptyS⟩), .ob B2 28 (enCells ⟨l, 7, 0, 0, 0, r, ⟨c.page, 0, emptyCl, emptyCl⟩, emptyS⟩)] (w6.drew.setRow B1 (enCells ⟨l, 7, 0, 0, 0, r, ⟨c.page, 0, emptyCl, emptyCl⟩, emptyS⟩).toArray)) := ((HS5.out).drew).row 1 rfl (enCells ⟨l, 7, 0, 0, 0, r, ⟨c.page, 0, emptyCl, emptyCl⟩, emptyS⟩)
      refine hK.out _ _ (HS6.out.pick [0, 2] rfl) (fun hHeld => ?_)
      clear hK K
      generalize (w6.drew.setRow B1 (enCells ⟨l, 7, 0, 0, 0, r, ⟨c.page, 0, emptyCl, emptyCl⟩, emptyS⟩).toArray) = w7 at *
      try simp only [Act.put, List.setIfInBounds_toArray, List.set_cons_zero, List.set_cons_succ]
      refine wpAnyH_take (i := 12) (oi := { dst := some 3, op := Op.assign (Operand.tmp 122), type := 4, pos := "ref.go:33", after := #[{ on := 10, ground := Ground.data }, { on := 11, ground := Ground.chain }, { on := 0, ground := Ground.phase }, { on := 1, ground := Ground.phase }, { on := 2, ground := Ground.phase }, { on := 3, ground := Ground.phase }, { on := 4, ground := Ground.phase }, { on := 5, ground := Ground.phase }, { on := 6, ground := Ground.phase }, { on := 7, ground := Ground.phase }, { on := 8, ground := Ground.phase }, { on := 9, ground := Ground.phase }, { on := 10, ground := Ground.phase }, { on := 11, ground := Ground.phase }], guard := none }) (v := ?q32v) rfl (by kernel_rfl) (by kernel_rfl) (by kernel_rfl) (fun _ _ _ h => h) (Or.inl ⟨by rfl, ?q32h⟩) hHeld ?q32r
      case q32h => (intro wq hSw; clear hSw; go_simp; try with_reducible rfl)
      try simp only [Act.put, List.setIfInBounds_toArray, List.set_cons_zero, List.set_cons_succ]
      refine wpAnyH_done (by kernel_rfl) ?_ _
      go_wp2_with fail
      refine bodyPost_ret (results_ob_tmp Try.results32 _ _ B1 (enCells ⟨l, 7, 0, 0, 0, r, ⟨c.page, 0, emptyCl, emptyCl⟩, emptyS⟩) 28 _ rfl ((HS6.out).get 1 rfl) HUE.out rfl info_en) rfl ?_
      exact ShPost.mk rfl (by show (decide (0 ≤ c.page) && decide (c.page < 64)) = _; simp; omega) (HS6.out).old
    case pos =>
      go_upto_region 22 with (fail)
      refine wp_region_held_drew (S := fun w' => Hold w.heap.size [.ob (w.heap.size) 28 (enCells ⟨l, 7, t, p, g, r, c, s⟩), .ob B2 28 (enCells ⟨l, 7, 0, 0, 0, r, ⟨c.page, 0, emptyCl, emptyCl⟩, emptyS⟩)] w') (by kernel_rfl) ((HS5.out).drew.pick [0, 2] rfl) (fun hHeld => ?_)
      refine wpAnyH_take (i := 0) (oi := { dst := some 112, op := Op.load 28 (Operand.tmp 4), type := 28, pos := "ref.go:33", after := #[], guard := none }) rfl (by kernel_rfl) (by kernel_rfl) (by kernel_rfl) (fun _ _ _ h => h) (yieldsIf_load_mid (by rfl) 28 (.tmp 4) rfl B2 0 rfl (enCells ⟨l, 7, 0, 0, 0, r, ⟨c.page, 0, emptyCl, emptyCl⟩, emptyS⟩) _ (fun _ h => h.whole 1 rfl) HUE.out rfl (info_en)) hHeld ?_
      try simp only [Act.put, List.setIfInBounds_toArray, List.set_cons_zero, List.set_cons_succ]
      refine wpAnyH_take (i := 1) (oi := { dst := some 113, op := Op.fieldAddr 28 (Operand.tmp 1) 6, type := 0, pos := "ref.go:33", after := #[], guard := none }) (v := ?q34v) rfl (by kernel_rfl) (by kernel_rfl) (by kernel_rfl) (fun _ _ _ h => h) (Or.inl ⟨by rfl, ?q34h⟩) hHeld ?q34r
      case q34h => (intro wq hSw; clear hSw; go_simp; try with_reducible rfl)
      try simp only [Act.put, List.setIfInBounds_toArray, List.set_cons_zero, List.set_cons_succ]
      refine wpAnyH_take (i := 2) (oi := { dst := some 114, op := Op.fieldAddr 26 (Operand.tmp 113) 0, type := 0, pos := "ref.go:33", after := #[{ on := 1, ground := Ground.data }], guard := none }) (v := ?q35v) rfl (by kernel_rfl) (by kernel_rfl) (by kernel_rfl) (fun _ _ _ h => h) (Or.inl ⟨by rfl, ?q35h⟩) hHeld ?q35r
      case q35h => (intro wq hSw; clear hSw; go_simp; try with_reducible rfl)
      try simp only [Act.put, List.setIfInBounds_toArray, List.set_cons_zero, List.set_cons_succ]
      refine wpAnyH_take (i := 3) (oi := { dst := some 115, op := Op.load 3 (Operand.tmp 114), type := 3, pos := "ref.go:33", after := #[{ on := 2, ground := Ground.data }], guard := none }) (v := .int .i64 c.page) rfl (by kernel_rfl) (by kernel_rfl) (by kernel_rfl) (fun _ _ _ h => h) (Or.inl ⟨by rfl, ?q36h⟩) hHeld ?q36r
      case q36h => (intro wq hSw; have lq := hSw.at 0 rfl 6 (v := .int .i64 c.page) rfl; clear hSw; go_simp; try with_reducible rfl)
      try simp only [Act.put, List.setIfInBounds_toArray, List.set_cons_zero, List.set_cons_succ]
      refine wpAnyH_take (i := 4) (oi := { dst := some 116, op := Op.binOp BinOp.geq 3 (Operand.tmp 115) (Operand.const (Value.int IntKind.i64 0)) 3, type := 4, pos := "ref.go:33", after := #[{ on := 3, ground := Ground.data }], guard := none }) (v := .bool true) rfl (by kernel_rfl) (by kernel_rfl) (by kernel_rfl) (fun _ _ _ h => h) (Or.inl ⟨by rfl, ?q37h⟩) hHeld ?q37r
      case q37h => (intro wq hSw; clear hSw; go_simp; try with_reducible rfl)
      try simp only [Act.put, List.setIfInBounds_toArray, List.set_cons_zero, List.set_cons_succ]
      refine wpAnyH_take (i := 5) (oi := { dst := some 117, op := Op.move (Operand.tmp 116), type := 4, pos := "ref.go:33", after := #[{ on := 4, ground := Ground.data }], guard := none }) (v := ?q38v) rfl (by kernel_rfl) (by kernel_rfl) (by kernel_rfl) (fun _ _ _ h => h) (Or.inl ⟨by rfl, ?q38h⟩) hHeld ?q38r
      case q38h => (intro wq hSw; clear hSw; go_simp; try with_reducible rfl)
      try simp only [Act.put, List.setIfInBounds_toArray, List.set_cons_zero, List.set_cons_succ]
      refine wpAnyH_take (i := 6) (oi := { dst := some 118, op := Op.fieldAddr 28 (Operand.tmp 1) 6, type := 0, pos := "ref.go:33", after := #[{ on := 5, ground := Ground.guard }, { on := 11, ground := Ground.gcOnly Departure.lateStores }], guard := some (5, true) }) (v := ?q39v) rfl (by kernel_rfl) (by kernel_rfl) (by kernel_rfl) (fun _ _ _ h => h) (Or.inl ⟨by rfl, ?q39h⟩) hHeld ?q39r
      case q39h => (intro wq hSw; clear hSw; go_simp; try with_reducible rfl)
      try simp only [Act.put, List.setIfInBounds_toArray, List.set_cons_zero, List.set_cons_succ]
      refine wpAnyH_take (i := 7) (oi := { dst := some 119, op := Op.fieldAddr 26 (Operand.tmp 118) 0, type := 0, pos := "ref.go:33", after := #[{ on := 6, ground := Ground.data }, { on := 5, ground := Ground.guard }, { on := 11, ground := Ground.gcOnly Departure.lateStores }], guard := some (5, true) }) (v := ?q40v) rfl (by kernel_rfl) (by kernel_rfl) (by kernel_rfl) (fun _ _ _ h => h) (Or.inl ⟨by rfl, ?q40h⟩) hHeld ?q40r
      case q40h => (intro wq hSw; clear hSw; go_simp; try with_reducible rfl)
      try simp only [Act.put, List.setIfInBounds_toArray, List.set_cons_zero, List.set_cons_succ]
      refine wpAnyH_take (i := 8) (oi := { dst := some 120, op := Op.load 3 (Operand.tmp 119), type := 3, pos := "ref.go:33", after := #[{ on := 7, ground := Ground.data }, { on := 5, ground := Ground.guard }, { on := 11, ground := Ground.gcOnly Departure.lateStores }], guard := some (5, true) }) (v := .int .i64 c.page) rfl (by kernel_rfl) (by kernel_rfl) (by kernel_rfl) (fun _ _ _ h => h) (Or.inl ⟨by rfl, ?q41h⟩) hHeld ?q41r
      case q41h => (intro wq hSw; have lq := hSw.at 0 rfl 6 (v := .int .i64 c.page) rfl; clear hSw; go_simp; try with_reducible rfl)
      try simp only [Act.put, List.setIfInBounds_toArray, List.set_cons_zero, List.set_cons_succ]
      refine wpAnyH_take (i := 9) (oi := { dst := some 121, op := Op.binOp BinOp.lss 3 (Operand.tmp 120) (Operand.const (Value.int IntKind.i64 64)) 3, type := 4, pos := "ref.go:33", after := #[{ on := 8, ground := Ground.data }, { on := 5, ground := Ground.guard }, { on := 11, ground := Ground.gcOnly Departure.lateStores }], guard := some (5, true) }) (v := .bool true) rfl (by kernel_rfl) (by kernel_rfl) (by kernel_rfl) (fun _ _ _ h => h) (Or.inl ⟨by rfl, ?q42h⟩) hHeld ?q42r
      case q42h => (intro wq hSw; clear hSw; go_simp; try with_reducible rfl)
      try simp only [Act.put, List.setIfInBounds_toArray, List.set_cons_zero, List.set_cons_succ]
      refine wpAnyH_take (i := 10) (oi := { dst := some 122, op := Op.pick (Operand.tmp 117) (Operand.tmp 121) (Operand.const (Value.bool false)), type := 4, pos := "ref.go:33", after := #[{ on := 5, ground := Ground.data }, { on := 9, ground := Ground.data }, { on := 11, ground := Ground.gcOnly Departure.lateStores }], guard := none }) (v := .bool true) rfl (by kernel_rfl) (by kernel_rfl) (by kernel_rfl) (fun _ _ _ h => h) (Or.inl ⟨by rfl, ?q43h⟩) hHeld ?q43r
      case q43h => (intro wq hSw; clear hSw; go_simp; try with_reducible rfl)
      try simp only [Act.put, List.setIfInBounds_toArray, List.set_cons_zero, List.set_cons_succ]
      refine wpAnyH_ready (rs := [11]) (by kernel_rfl) (by simp) ?_
      refine AllReadyH.cons (o := { dst := none, op := Op.store 28 (Operand.tmp 2) (Operand.tmp 112), type := 0, pos := "ref.go:33", after := #[{ on := 0, ground := Ground.data }, { on := 5, ground := Ground.chain }, { on := 0, ground := Ground.phase }, { on := 1, ground := Ground.textOnly Departure.lateStores }, { on := 2, ground := Ground.textOnly Departure.lateStores }, { on := 3, ground := Ground.textOnly Departure.lateStores }, { on := 4, ground := Ground.textOnly Departure.lateStores }, { on := 5, ground := Ground.textOnly Departure.lateStores }, { on := 6, ground := Ground.textOnly Departure.lateStores }, { on := 7, ground := Ground.textOnly Departure.lateStores }, { on := 8, ground := Ground.textOnly Departure.lateStores }, { on := 9, ground := Ground.textOnly Departure.lateStores }, { on := 10, ground := Ground.textOnly Departure.lateStores }], guard := none }) rfl (fun K hK => ?_) (AllReadyH.nil)
      rw [if_pos (by rfl)]
      refine wp_store_ob 28 (.tmp 2) (.tmp 112) B1 (enCells ⟨l, 7, 0, 0, 0, r, ⟨c.page, 0, emptyCl, emptyCl⟩, emptyS⟩) (enCells enNil) 28 rfl rfl rfl rfl (((HS5.out).drew).get 1 rfl) (info_en) (rfl) ((oneCell_en _)) ?_
      have HS6 : Hid (Hp w [.ob (w.heap.size) 28 (enCells ⟨l, 7, t, p, g, r, c, s⟩), .ob B1 28 (enCells ⟨l, 7, 0, 0, 0, r, ⟨c.page, 0, emptyCl, emptyCl⟩, emptyS⟩), .ob B2 28 (enCells ⟨l, 7, 0, 0, 0, r, ⟨c.page, 0, emptyCl, emptyCl⟩, emptyS⟩)] (w6.drew.setRow B1 (enCells ⟨l, 7, 0, 0, 0, r, ⟨c.page, 0, emptyCl, emptyCl⟩, emptyS⟩).toArray)) := ((HS5.out).drew).row 1 rfl (enCells ⟨l, 7, 0, 0, 0, r, ⟨c.page, 0, emptyCl, emptyCl⟩, emptyS⟩)
      refine hK.out _ _ (HS6.out.pick [0, 2] rfl) (fun hHeld => ?_)
      clear hK K
      generalize (w6.drew.setRow B1 (enCells ⟨l, 7, 0, 0, 0, r, ⟨c.page, 0, emptyCl, emptyCl⟩, emptyS⟩).toArray) = w7 at *
      try simp only [Act.put, List.setIfInBounds_toArray, List.set_cons_zero, List.set_cons_succ]
      refine wpAnyH_take (i := 12) (oi := { dst := some 3, op := Op.assign (Operand.tmp 122), type := 4, pos := "ref.go:33", after := #[{ on := 10, ground := Ground.data }, { on := 11, ground := Ground.chain }, { on := 0, ground := Ground.phase }, { on := 1, ground := Ground.phase }, { on := 2, ground := Ground.phase }, { on := 3, ground := Ground.phase }, { on := 4, ground := Ground.phase }, { on := 5, ground := Ground.phase }, { on := 6, ground := Ground.phase }, { on := 7, ground := Ground.phase }, { on := 8, ground := Ground.phase }, { on := 9, ground := Ground.phase }, { on := 10, ground := Ground.phase }, { on := 11, ground := Ground.phase }], guard := none }) (v := ?q44v) rfl (by kernel_rfl) (by kernel_rfl) (by kernel_rfl) (fun _ _ _ h => h) (Or.inl ⟨by rfl, ?q44h⟩) hHeld ?q44r
      case q44h => (intro wq hSw; clear hSw; go_simp; try with_reducible rfl)
      try simp only [Act.put, List.setIfInBounds_toArray, List.set_cons_zero, List.set_cons_succ]
      refine wpAnyH_done (by kernel_rfl) ?_ _
      go_wp2_with fail
      refine bodyPost_ret (results_ob_tmp Try.results32 _ _ B1 (enCells ⟨l, 7, 0, 0, 0, r, ⟨c.page, 0, emptyCl, emptyCl⟩, emptyS⟩) 28 _ rfl ((HS6.out).get 1 rfl) HUE.out rfl info_en) rfl ?_
      exact ShPost.mk rfl (by show (decide (0 ≤ c.page) && decide (c.page < 64)) = _; simp; omega) (HS6.out).old
set_option maxHeartbeats 8000000 in
theorem shape_k8 (l t p g r : Int) (c : Chg) (s : ByteArray) (w : World) (hc : GoodCh c) (hs : s.size ≤ maxLen) : Calls Try.prog 32 #[.agg (enCells ⟨l, 8, t, p, g, r, c, s⟩).toArray] w (ShPost ⟨l, 8, t, p, g, r, c, s⟩ w) := by
  have HC := Lib.hid hc
  have HBl := Lib.hid hs
  obtain ⟨fsHUE, huHUE⟩ := under_en
  have HUE := Lib.hid huHUE
  clear huHUE
  obtain ⟨fsHUC, huHUC⟩ := under_ch
  have HUC := Lib.hid huHUC
  clear huHUC
  have h1 := ((Hp.start w).put 28 (enCells ⟨l, 8, t, p, g, r, c, s⟩)).put 28 (enCells enNil)
  simp only [List.nil_append, List.cons_append, World.size_alloc] at h1
  have HS0 : Hid (Hp w [.ob w.heap.size 28 (enCells ⟨l, 8, t, p, g, r, c, s⟩), .ob (w.heap.size + 1) 28 (enCells enNil)] ((w.alloc (.cells (enCells ⟨l, 8, t, p, g, r, c, s⟩).toArray 28)).alloc (.cells #[.int .i64 0, .int .i64 0, .int .i64 0, .int .i64 0, .int .i64 0, .int .i64 0, .int .i64 0, .int .i64 0, .bool false, .string ⟨#[]⟩, .bool false, .string ⟨#[]⟩, .string ⟨#[]⟩] 28))) := h1
  clear h1 hc hs
  go_enter Try.func32, Try.ntmps32
  go_upto_region 1 with (fail)
  have HS2 : Hid (Hp w [.ob (w.heap.size) 28 (enCells ⟨l, 8, t, p, g, r, c, s⟩), .ob ((w.heap.size + 1)) 28 (enCells enNil)] ((w.alloc (.cells (enCells ⟨l, 8, t, p, g, r, c, s⟩).toArray 28)).alloc (.cells #[.int .i64 0, .int .i64 0, .int .i64 0, .int .i64 0, .int .i64 0, .int .i64 0, .int .i64 0, .int .i64 0, .bool false, .string ⟨#[]⟩, .bool false, .string ⟨#[]⟩, .string ⟨#[]⟩] 28))) := HS0.out
  clear HS0
  generalize (w.alloc (.cells (enCells ⟨l, 8, t, p, g, r, c, s⟩).toArray 28)).alloc (.cells #[.int .i64 0, .int .i64 0, .int .i64 0, .int .i64 0, .int .i64 0, .int .i64 0, .int .i64 0, .int .i64 0, .bool false, .string ⟨#[]⟩, .bool false, .string ⟨#[]⟩, .string ⟨#[]⟩] 28) = w3 at *
  generalize (w.heap.size + 1) = B1 at *
  have c0 : w3.cell? ⟨(w.heap.size), 0, none⟩ = some (.int .i64 l) := (HS2.out).at 0 rfl 0 rfl
  have c1 : w3.cell? ⟨(w.heap.size), 1, none⟩ = some (.int .i64 8) := (HS2.out).at 0 rfl 1 rfl
  go_upto_region 2 with (first | ((with_reducible refine wpList_build_v (d := some 10) 28 (.agg (enCells ⟨l, 8, 0, 0, 0, 0, chNil, emptyS⟩).toArray) ?_ ?_); (intro W; simp only [List.map_toArray, List.map_cons, List.map_nil]; exact build_two l 8 W); simp only [Act.put, List.setIfInBounds_toArray, List.set_cons_zero, List.set_cons_succ]) | ((with_reducible refine wpList_alloc_ob 28 (enCells enNil) ?_ ?_); (exact alloc_en); simp only [Act.put, List.setIfInBounds_toArray, List.set_cons_zero, List.set_cons_succ]) | ((with_reducible refine wpList_store_ob 28 (.tmp 4) (w3.heap.size) (enCells ⟨l, 8, 0, 0, 0, 0, chNil, emptyS⟩) (enCells enNil) 28 ?_ ?_ ?_ ?_ ?_ ?_ ?_); (exact rfl); (exact rfl); (exact ((HS2.out).put 28 (enCells enNil)).get 2 rfl); (exact info_en); (exact rfl); (exact (oneCell_en _)); skip))
  have HS3 : Hid (Hp w [.ob (w.heap.size) 28 (enCells ⟨l, 8, t, p, g, r, c, s⟩), .ob B1 28 (enCells enNil), .ob (w3.heap.size) 28 (enCells ⟨l, 8, 0, 0, 0, 0, chNil, emptyS⟩)] ((w3.alloc (.cells (enCells enNil).toArray 28)).setRow (w3.heap.size) (enCells ⟨l, 8, 0, 0, 0, 0, chNil, emptyS⟩).toArray)) := ((HS2.out).put 28 (enCells enNil)).row 2 rfl (enCells ⟨l, 8, 0, 0, 0, 0, chNil, emptyS⟩)
  clear HS2
  generalize ((w3.alloc (.cells (enCells enNil).toArray 28)).setRow (w3.heap.size) (enCells ⟨l, 8, 0, 0, 0, 0, chNil, emptyS⟩).toArray) = w4 at *
  generalize w3.heap.size = B2 at *
  clear c0 c1
  have c1 : w4.cell? ⟨(w.heap.size), 1, none⟩ = some (.int .i64 8) := (HS3.out).at 0 rfl 1 rfl
  go_upto_region 18 with (fail)
  clear c1
  have c12 : w4.cell? ⟨(w.heap.size), 12, none⟩ = some (.string s) := (HS3.out).at 0 rfl 12 rfl
  go_upto_region 19 with (first | ((with_reducible refine wpList_store_fld 9 (.tmp 96) (.tmp 95) B2 12 (.string s) ([.string s]) (enCells ⟨l, 8, 0, 0, 0, 0, chNil, emptyS⟩) (enCells ⟨l, 8, 0, 0, 0, 0, chNil, s⟩) 28 ?_ ?_ ?_ ?_ ?_ ?_ ?_ ?_ ?_); (exact rfl); (exact rfl); (exact rfl); (exact (HS3.out).get 2 rfl); (exact (Nat.le_of_ble_eq_true rfl)); (exact info_str1); (exact (one_str _)); (exact rfl); skip))
  have HS4 : Hid (Hp w [.ob (w.heap.size) 28 (enCells ⟨l, 8, t, p, g, r, c, s⟩), .ob B1 28 (enCells enNil), .ob B2 28 (enCells ⟨l, 8, 0, 0, 0, 0, chNil, s⟩)] (w4.setRow B2 (enCells ⟨l, 8, 0, 0, 0, 0, chNil, s⟩).toArray)) := (HS3.out).row 2 rfl (enCells ⟨l, 8, 0, 0, 0, 0, chNil, s⟩)
  clear HS3
  generalize (w4.setRow B2 (enCells ⟨l, 8, 0, 0, 0, 0, chNil, s⟩).toArray) = w5 at *
  clear c12
  have hs : s.size ≤ maxLen := HBl.out
  unfold maxLen at hs
  refine wp_region_held_drew (S := fun w' => Hold w.heap.size [.ob (w.heap.size) 28 (enCells ⟨l, 8, t, p, g, r, c, s⟩), .ob B2 28 (enCells ⟨l, 8, 0, 0, 0, 0, chNil, s⟩)] w') (by kernel_rfl) ((HS4.out).drew.pick [0, 2] rfl) (fun hHeld => ?_)
  refine wpAnyH_take (i := 0) (oi := { dst := some 97, op := Op.load 28 (Operand.tmp 4), type := 28, pos := "ref.go:30", after := #[], guard := none }) rfl (by kernel_rfl) (by kernel_rfl) (by kernel_rfl) (fun _ _ _ h => h) (yieldsIf_load_mid (by rfl) 28 (.tmp 4) rfl B2 0 rfl (enCells ⟨l, 8, 0, 0, 0, 0, chNil, s⟩) _ (fun _ h => h.whole 1 rfl) HUE.out rfl (info_en)) hHeld ?_
  try simp only [Act.put, List.setIfInBounds_toArray, List.set_cons_zero, List.set_cons_succ]
  refine wpAnyH_take (i := 1) (oi := { dst := some 98, op := Op.fieldAddr 28 (Operand.tmp 1) 7, type := 0, pos := "ref.go:30", after := #[], guard := none }) (v := ?q2v) rfl (by kernel_rfl) (by kernel_rfl) (by kernel_rfl) (fun _ _ _ h => h) (Or.inl ⟨by rfl, ?q2h⟩) hHeld ?q2r
  case q2h => (intro wq hSw; clear hSw; go_simp; try with_reducible rfl)
  try simp only [Act.put, List.setIfInBounds_toArray, List.set_cons_zero, List.set_cons_succ]
  refine wpAnyH_take (i := 2) (oi := { dst := some 99, op := Op.load 9 (Operand.tmp 98), type := 9, pos := "ref.go:30", after := #[{ on := 1, ground := Ground.data }], guard := none }) (v := .string s) rfl (by kernel_rfl) (by kernel_rfl) (by kernel_rfl) (fun _ _ _ h => h) (Or.inl ⟨by rfl, ?q3h⟩) hHeld ?q3r
  case q3h => (intro wq hSw; have lq := hSw.at 0 rfl 12 (v := .string s) rfl; clear hSw; go_simp; try with_reducible rfl)
  try simp only [Act.put, List.setIfInBounds_toArray, List.set_cons_zero, List.set_cons_succ]
  refine wpAnyH_take (i := 3) (oi := { dst := some 100, op := Op.call { callee := Callee.builtin Builtin.len, args := #[Operand.tmp 99], argTypes := #[9] }, type := 3, pos := "ref.go:30", after := #[{ on := 2, ground := Ground.data }], guard := none }) (v := ?q4v) rfl (by kernel_rfl) (by kernel_rfl) (by kernel_rfl) (fun _ _ _ h => h) (Or.inl ⟨by rfl, ?q4h⟩) hHeld ?q4r
  case q4h => (intro wq hSw; clear hSw; go_simp; try with_reducible rfl)
  try simp only [Act.put, List.setIfInBounds_toArray, List.set_cons_zero, List.set_cons_succ]
  refine wpAnyH_take (i := 4) (oi := { dst := some 101, op := Op.binOp BinOp.leq 3 (Operand.tmp 100) (Operand.const (Value.int IntKind.i64 8192)) 3, type := 4, pos := "ref.go:30", after := #[{ on := 3, ground := Ground.data }, { on := 5, ground := Ground.gcOnly Departure.lateStores }], guard := none }) (v := ?q5v) rfl (by kernel_rfl) (by kernel_rfl) (by kernel_rfl) (fun _ _ _ h => h) (Or.inl ⟨by rfl, ?q5h⟩) hHeld ?q5r
  case q5h => (intro wq hSw; clear hSw; go_simp; try with_reducible rfl)
  try simp only [Act.put, List.setIfInBounds_toArray, List.set_cons_zero, List.set_cons_succ]
  refine wpAnyH_ready (rs := [5]) (by kernel_rfl) (by simp) ?_
  refine AllReadyH.cons (o := { dst := none, op := Op.store 28 (Operand.tmp 2) (Operand.tmp 97), type := 0, pos := "ref.go:30", after := #[{ on := 0, ground := Ground.data }, { on := 0, ground := Ground.phase }, { on := 1, ground := Ground.textOnly Departure.lateStores }, { on := 2, ground := Ground.textOnly Departure.lateStores }, { on := 3, ground := Ground.textOnly Departure.lateStoresUnsure }, { on := 4, ground := Ground.textOnly Departure.lateStores }], guard := none }) rfl (fun K hK => ?_) (AllReadyH.nil)
  rw [if_pos (by rfl)]
  refine wp_store_ob 28 (.tmp 2) (.tmp 97) B1 (enCells ⟨l, 8, 0, 0, 0, 0, chNil, s⟩) (enCells enNil) 28 rfl rfl rfl rfl (((HS4.out).drew).get 1 rfl) (info_en) (rfl) ((oneCell_en _)) ?_
  have HS5 : Hid (Hp w [.ob (w.heap.size) 28 (enCells ⟨l, 8, t, p, g, r, c, s⟩), .ob B1 28 (enCells ⟨l, 8, 0, 0, 0, 0, chNil, s⟩), .ob B2 28 (enCells ⟨l, 8, 0, 0, 0, 0, chNil, s⟩)] (w5.drew.setRow B1 (enCells ⟨l, 8, 0, 0, 0, 0, chNil, s⟩).toArray)) := ((HS4.out).drew).row 1 rfl (enCells ⟨l, 8, 0, 0, 0, 0, chNil, s⟩)
  refine hK.out _ _ (HS5.out.pick [0, 2] rfl) (fun hHeld => ?_)
  clear hK K
  generalize (w5.drew.setRow B1 (enCells ⟨l, 8, 0, 0, 0, 0, chNil, s⟩).toArray) = w6 at *
  try simp only [Act.put, List.setIfInBounds_toArray, List.set_cons_zero, List.set_cons_succ]
  refine wpAnyH_take (i := 6) (oi := { dst := some 3, op := Op.assign (Operand.tmp 101), type := 4, pos := "ref.go:30", after := #[{ on := 4, ground := Ground.data }, { on := 5, ground := Ground.chain }, { on := 0, ground := Ground.phase }, { on := 1, ground := Ground.phase }, { on := 2, ground := Ground.phase }, { on := 3, ground := Ground.phase }, { on := 4, ground := Ground.phase }, { on := 5, ground := Ground.phase }], guard := none }) (v := ?q6v) rfl (by kernel_rfl) (by kernel_rfl) (by kernel_rfl) (fun _ _ _ h => h) (Or.inl ⟨by rfl, ?q6h⟩) hHeld ?q6r
  case q6h => (intro wq hSw; clear hSw; go_simp; try with_reducible rfl)
  try simp only [Act.put, List.setIfInBounds_toArray, List.set_cons_zero, List.set_cons_succ]
  refine wpAnyH_done (by kernel_rfl) ?_ _
  go_wp2_with fail
  refine bodyPost_ret (results_ob_tmp Try.results32 _ _ B1 (enCells ⟨l, 8, 0, 0, 0, 0, chNil, s⟩) 28 _ rfl ((HS5.out).get 1 rfl) HUE.out rfl info_en) rfl ?_
  exact ShPost.mk rfl (by show blobB s = _; unfold blobB; rw [Bool.eq_iff_iff]; simp; omega) (HS5.out).old
set_option maxHeartbeats 8000000 in
theorem shape_no (l k t p g r : Int) (c : Chg) (s : ByteArray) (w : World) (hc : GoodCh c) (hs : s.size ≤ maxLen) (hk : k < 1 ∨ 8 < k) : Calls Try.prog 32 #[.agg (enCells ⟨l, k, t, p, g, r, c, s⟩).toArray] w (ShPost ⟨l, k, t, p, g, r, c, s⟩ w) := by
  have HC := Lib.hid hc
  have HBl := Lib.hid hs
  have n1 : (k == 1) = false := by rw [beq_eq_false_iff_ne]; omega
  have n2 : (k == 2) = false := by rw [beq_eq_false_iff_ne]; omega
  have n3 : (k == 3) = false := by rw [beq_eq_false_iff_ne]; omega
  have n4 : (k == 4) = false := by rw [beq_eq_false_iff_ne]; omega
  have n5 : (k == 5) = false := by rw [beq_eq_false_iff_ne]; omega
  have n6 : (k == 6) = false := by rw [beq_eq_false_iff_ne]; omega
  have n7 : (k == 7) = false := by rw [beq_eq_false_iff_ne]; omega
  have n8 : (k == 8) = false := by rw [beq_eq_false_iff_ne]; omega
  have HK := Lib.hid hk
  clear hk
  obtain ⟨fsHUE, huHUE⟩ := under_en
  have HUE := Lib.hid huHUE
  clear huHUE
  obtain ⟨fsHUC, huHUC⟩ := under_ch
  have HUC := Lib.hid huHUC
  clear huHUC
  have h1 := ((Hp.start w).put 28 (enCells ⟨l, k, t, p, g, r, c, s⟩)).put 28 (enCells enNil)
  simp only [List.nil_append, List.cons_append, World.size_alloc] at h1
  have HS0 : Hid (Hp w [.ob w.heap.size 28 (enCells ⟨l, k, t, p, g, r, c, s⟩), .ob (w.heap.size + 1) 28 (enCells enNil)] ((w.alloc (.cells (enCells ⟨l, k, t, p, g, r, c, s⟩).toArray 28)).alloc (.cells #[.int .i64 0, .int .i64 0, .int .i64 0, .int .i64 0, .int .i64 0, .int .i64 0, .int .i64 0, .int .i64 0, .bool false, .string ⟨#[]⟩, .bool false, .string ⟨#[]⟩, .string ⟨#[]⟩] 28))) := h1
  clear h1 hc hs
  go_enter Try.func32, Try.ntmps32
  go_upto_region 1 with (fail)
  have HS2 : Hid (Hp w [.ob (w.heap.size) 28 (enCells ⟨l, k, t, p, g, r, c, s⟩), .ob ((w.heap.size + 1)) 28 (enCells enNil)] ((w.alloc (.cells (enCells ⟨l, k, t, p, g, r, c, s⟩).toArray 28)).alloc (.cells #[.int .i64 0, .int .i64 0, .int .i64 0, .int .i64 0, .int .i64 0, .int .i64 0, .int .i64 0, .int .i64 0, .bool false, .string ⟨#[]⟩, .bool false, .string ⟨#[]⟩, .string ⟨#[]⟩] 28))) := HS0.out
  clear HS0
  generalize (w.alloc (.cells (enCells ⟨l, k, t, p, g, r, c, s⟩).toArray 28)).alloc (.cells #[.int .i64 0, .int .i64 0, .int .i64 0, .int .i64 0, .int .i64 0, .int .i64 0, .int .i64 0, .int .i64 0, .bool false, .string ⟨#[]⟩, .bool false, .string ⟨#[]⟩, .string ⟨#[]⟩] 28) = w3 at *
  generalize (w.heap.size + 1) = B1 at *
  have c0 : w3.cell? ⟨(w.heap.size), 0, none⟩ = some (.int .i64 l) := (HS2.out).at 0 rfl 0 rfl
  have c1 : w3.cell? ⟨(w.heap.size), 1, none⟩ = some (.int .i64 k) := (HS2.out).at 0 rfl 1 rfl
  go_upto_region 2 with (first | ((with_reducible refine wpList_build_v (d := some 10) 28 (.agg (enCells ⟨l, k, 0, 0, 0, 0, chNil, emptyS⟩).toArray) ?_ ?_); (intro W; simp only [List.map_toArray, List.map_cons, List.map_nil]; exact build_two l k W); simp only [Act.put, List.setIfInBounds_toArray, List.set_cons_zero, List.set_cons_succ]) | ((with_reducible refine wpList_alloc_ob 28 (enCells enNil) ?_ ?_); (exact alloc_en); simp only [Act.put, List.setIfInBounds_toArray, List.set_cons_zero, List.set_cons_succ]) | ((with_reducible refine wpList_store_ob 28 (.tmp 4) (w3.heap.size) (enCells ⟨l, k, 0, 0, 0, 0, chNil, emptyS⟩) (enCells enNil) 28 ?_ ?_ ?_ ?_ ?_ ?_ ?_); (exact rfl); (exact rfl); (exact ((HS2.out).put 28 (enCells enNil)).get 2 rfl); (exact info_en); (exact rfl); (exact (oneCell_en _)); skip))
  have HS3 : Hid (Hp w [.ob (w.heap.size) 28 (enCells ⟨l, k, t, p, g, r, c, s⟩), .ob B1 28 (enCells enNil), .ob (w3.heap.size) 28 (enCells ⟨l, k, 0, 0, 0, 0, chNil, emptyS⟩)] ((w3.alloc (.cells (enCells enNil).toArray 28)).setRow (w3.heap.size) (enCells ⟨l, k, 0, 0, 0, 0, chNil, emptyS⟩).toArray)) := ((HS2.out).put 28 (enCells enNil)).row 2 rfl (enCells ⟨l, k, 0, 0, 0, 0, chNil, emptyS⟩)
  clear HS2
  generalize ((w3.alloc (.cells (enCells enNil).toArray 28)).setRow (w3.heap.size) (enCells ⟨l, k, 0, 0, 0, 0, chNil, emptyS⟩).toArray) = w4 at *
  generalize w3.heap.size = B2 at *
  clear c0 c1
  have c1 : w4.cell? ⟨(w.heap.size), 1, none⟩ = some (.int .i64 k) := (HS3.out).at 0 rfl 1 rfl
  go_upto_region 23 with (fail)
  clear c1
  go_wp2_with (first | ((with_reducible refine wpList_load_ob 28 (.tmp 4) B2 (enCells ⟨l, k, 0, 0, 0, 0, chNil, emptyS⟩) 28 HUE.out ?_ ?_ ?_ ?_ ?_); (exact rfl); (exact (HS3.out).get 2 rfl); (exact rfl); (exact info_en); simp only [Act.put, List.setIfInBounds_toArray, List.set_cons_zero, List.set_cons_succ]) | ((with_reducible refine wpList_store_ob 28 (.tmp 2) B1 (enCells ⟨l, k, 0, 0, 0, 0, chNil, emptyS⟩) (enCells enNil) 28 ?_ ?_ ?_ ?_ ?_ ?_ ?_); (exact rfl); (exact rfl); (exact (HS3.out).get 1 rfl); (exact info_en); (exact rfl); (exact (oneCell_en _)); skip))
  have HS4 : Hid (Hp w [.ob (w.heap.size) 28 (enCells ⟨l, k, t, p, g, r, c, s⟩), .ob B1 28 (enCells ⟨l, k, 0, 0, 0, 0, chNil, emptyS⟩), .ob B2 28 (enCells ⟨l, k, 0, 0, 0, 0, chNil, emptyS⟩)] (w4.setRow B1 (enCells ⟨l, k, 0, 0, 0, 0, chNil, emptyS⟩).toArray)) := (HS3.out).row 1 rfl (enCells ⟨l, k, 0, 0, 0, 0, chNil, emptyS⟩)
  clear HS3
  generalize (w4.setRow B1 (enCells ⟨l, k, 0, 0, 0, 0, chNil, emptyS⟩).toArray) = w5 at *
  refine bodyPost_ret (results_ob_tmp Try.results32 _ _ B1 (enCells ⟨l, k, 0, 0, 0, 0, chNil, emptyS⟩) 28 _ rfl ((HS4.out).get 1 rfl) HUE.out rfl info_en) rfl ?_
  exact ShPost.mk (by have := HK.out; unfold shapeE; simp only; rw [if_neg (by omega), if_neg (by omega), if_neg (by omega), if_neg (by omega), if_neg (by omega)]) (by have := HK.out; unfold shapeB; simp only; rw [if_neg (by omega), if_neg (by omega), if_neg (by omega), if_neg (by omega), if_neg (by omega)]) (HS4.out).old
theorem shape_any (e : Ent) (w : World) (he : GoodEn e) : Calls Try.prog 32 #[.agg (enCells e).toArray] w (ShPost e w) := by
  obtain ⟨l, k, t, p, g, r, c, s⟩ := e
  have hk : k = 1 ∨ k = 2 ∨ k = 3 ∨ k = 4 ∨ k = 5 ∨ k = 6 ∨ k = 7 ∨ k = 8 ∨ (k < 1 ∨ 8 < k) := by omega
  rcases hk with rfl | rfl | rfl | rfl | rfl | rfl | rfl | rfl | h
  · exact shape_k1 l t p g r c s w he.ch he.blob
  · exact shape_k2 l t p g r c s w he.ch he.blob
  · exact shape_k3 l t p g r c s w he.ch he.blob
  · exact shape_k4 l t p g r c s w he.ch he.blob
  · exact shape_k5 l t p g r c s w he.ch he.blob
  · exact shape_k6 l t p g r c s w he.ch he.blob
  · exact shape_k7 l t p g r c s w he.ch he.blob
  · exact shape_k8 l t p g r c s w he.ch he.blob
  · exact shape_no l k t p g r c s w he.ch he.blob h
end Go.Proofs.Ytgljhfofikjbdaa
