/- texts of a claim, one after the other: the program's Replace, devices that are valid, and what the functions of chapter 4 make of them, the law's awake: the example of chapter 4 -/
import Derived.Test.YtlmbnofkmmehoaaOm10
/- the program's Replace -/
namespace Go.Proofs.Ytlmbnofkmmehoaa
open Go.RowKit
set_option maxRecDepth 20000
set_option linter.unusedSimpArgs false
set_option linter.unusedVariables false

theorem build_dv2 (a a' : Option Addr) (n c n' c' : Nat) (wr : Int) (d : Dv) (hd : d.writes = wr) (hdd : d.dead = false) (W : World) : Sem.run Try.prog (Instr.build 27 #[(0, .slice a n c), (1, .int .i64 wr), (4, .slice a' n' c')]) W = .ok (.agg (dvCells (.slice a n c) d nilS (.slice a' n' c')).toArray) W := by
  unfold dvCells
  rw [hd, hdd]
  kernel_rfl
set_option maxHeartbeats 16000000 in
theorem replace_any {p u f : Value} {d : Dv} {R : List Rng} (w : World) (h : DvRd p u f d R) (hR : RdIn w R) (hg : GoodDv d) (hf : d.faults.length ≤ 1000) :
    Calls Try.prog 29 #[.agg (dvCells p d u f).toArray] w (DvPost w R (replaceR d)) := by
  have HV : Hid (∀ W, Below w.heap.size w W → Calls Try.prog 22 #[.agg (dvCells p d u f).toArray] W fun e w' => e = .returned (.bool (dvOkB d)) ∧ Below W.heap.size W w') := fun W hb => valid_any W h (hR.below hb) hg
  have HCl : Hid (∀ W, Below w.heap.size w W → Calls Try.prog 41 #[f] W fun e w' => ∃ u, e = .returned u ∧ Below W.heap.size W w' ∧ w'.ownsRow W.heap.size 29 6 u d.faults.length (fltRow d.faults)) := fun W hb => cloneF_any d.faults f R W h.faults (hR.below hb) hf
  obtain ⟨fs, hud⟩ := under_dv
  have HUD := Lib.hid hud
  obtain ⟨fs2, huf⟩ := under_flt
  have HUF := Lib.hid huf
  clear hud huf
  obtain ⟨pa, pc, rfl, hp1, hp3, hP2⟩ := h.pages.open hR
  obtain ⟨ua, uc, rfl, hu1, hu3, hU2⟩ := h.unread.open hR
  obtain ⟨fa, fc, rfl, hf1, hf3, hF2⟩ := h.faults.open hR
  clear h hR hg hP2 hU2 hF2 hf
  have h1 := ((Hp.start w).put 27 (dvCells (.slice pa d.pages.length pc) d (.slice ua d.unread.length uc) (.slice fa d.faults.length fc))).put 27 (dvCells nilS dvNil nilS nilS)
  simp only [World.size_alloc, List.nil_append, List.cons_append] at h1
  have HS0 : Hid (Hp w [.ob w.heap.size 27 (dvCells (.slice pa d.pages.length pc) d (.slice ua d.unread.length uc) (.slice fa d.faults.length fc)), .ob (w.heap.size + 1) 27 (dvCells nilS dvNil nilS nilS)] ((w.alloc (.cells (dvCells (.slice pa d.pages.length pc) d (.slice ua d.unread.length uc) (.slice fa d.faults.length fc)).toArray 27)).alloc (.cells #[.slice none 0 0, .int .i64 0, .slice none 0 0, .bool false, .slice none 0 0] 27))) := h1
  clear h1 hp1 hp3 hu1 hu3 hf1 hf3
  go_enter Try.func29, Try.ntmps29
  go_wp2_with (first | ((with_reducible refine wpList_load_ob 27 (.tmp 1) (w.heap.size) (dvCells (.slice pa d.pages.length pc) d (.slice ua d.unread.length uc) (.slice fa d.faults.length fc)) 27 HUD.out ?_ ?_ ?_ ?_ ?_); (exact rfl); (exact (HS0.out).get 0 rfl); (exact rfl); (exact info_dv); simp only [Act.put, List.setIfInBounds_toArray, List.set_cons_zero, List.set_cons_succ]))
  refine (HV.out _ (HS0.out).old).mono ?_
  rintro e w3 ⟨rfl, hb⟩
  have HS2 : Hid (Hp w [.ob (w.heap.size) 27 (dvCells (.slice pa d.pages.length pc) d (.slice ua d.unread.length uc) (.slice fa d.faults.length fc)), .ob ((w.heap.size + 1)) 27 (dvCells nilS dvNil nilS nilS)] w3) := (HS0.out).calls hb
  clear hb
  clear HS0
  generalize (w.heap.size + 1) = B1 at *
  clear HV
  cases hv : dvOkB d
  case false =>
    have HX : Hid (dvOkB d = false) := hv
    clear hv
    go_wp2_with (first | ((with_reducible refine wpList_build_v 27 (.agg (dvCells nilS dvNil nilS nilS).toArray) ?_ ?_); (intro W; simp only [List.map_toArray, List.map_cons, List.map_nil]; exact build_dv0 W); simp only [Act.put, List.setIfInBounds_toArray, List.set_cons_zero, List.set_cons_succ]) | ((with_reducible refine wpList_store_ob 27 (.tmp 2) B1 (dvCells nilS dvNil nilS nilS) (dvCells nilS dvNil nilS nilS) 27 ?_ ?_ ?_ ?_ ?_ ?_ ?_); (exact rfl); (exact rfl); (exact (HS2.out).get 1 rfl); (exact info_dv); (exact rfl); (exact (oneCell_dv _ _ _ _ _ _ _ _ _ _)); skip))
    have HS3 : Hid (Hp w [.ob (w.heap.size) 27 (dvCells (.slice pa d.pages.length pc) d (.slice ua d.unread.length uc) (.slice fa d.faults.length fc)), .ob B1 27 (dvCells nilS dvNil nilS nilS)] (w3.setRow B1 (dvCells nilS dvNil nilS nilS).toArray)) := (HS2.out).row 1 rfl (dvCells nilS dvNil nilS nilS)
    clear HS2
    generalize (w3.setRow B1 (dvCells nilS dvNil nilS nilS).toArray) = w4 at *
    refine bodyPost_ret (results_ob_tmp Try.results29 _ _ B1 (dvCells nilS dvNil nilS nilS) 27 _ rfl (HS3.out.get 1 rfl) HUD.out rfl info_dv) rfl ?_
    exact DvPost.none (by unfold replaceR; rw [if_pos HX.out]) HS3.out.old
  case true =>
    have HX : Hid (¬ dvOkB d = false) := by show ¬ _; rw [hv]; decide
    have HOk := Lib.hid (ok_inv hv)
    have HOk2 : Hid (1 ≤ d.pages.length ∧ d.pages.length ≤ 64) := by
      have h1 := (ok_inv hv).2.1
      unfold dvOkB numsB at hv
      simp only [Bool.and_eq_true, Bool.not_eq_true', decide_eq_false_iff_not] at hv
      exact ⟨by omega, h1⟩
    clear hv
    go_upto_region 3 with (fail)
    refine wp_region_held_drew (S := fun w' => Hold w.heap.size [.ob (w.heap.size) 27 (dvCells (.slice pa d.pages.length pc) d (.slice ua d.unread.length uc) (.slice fa d.faults.length fc))] w') (by kernel_rfl) ((HS2.out).drew.pick [0] rfl) (fun hHeld => ?_)
    refine wpAnyH_take (i := 0) (oi := { dst := some 8, op := Op.fieldAddr 27 (Operand.tmp 1) 0, type := 0, pos := "device.go:217", after := #[], guard := none }) (v := ?q1v) rfl (by kernel_rfl) (by kernel_rfl) (by kernel_rfl) (fun _ _ _ h => h) (Or.inl ⟨by rfl, ?q1h⟩) hHeld ?q1r
    case q1h => (intro wq hSw; clear hSw; go_simp; try with_reducible rfl)
    try simp only [Act.put, List.setIfInBounds_toArray, List.set_cons_zero, List.set_cons_succ]
    refine wpAnyH_take (i := 1) (oi := { dst := some 9, op := Op.load 23 (Operand.tmp 8), type := 23, pos := "device.go:217", after := #[{ on := 0, ground := Ground.data }], guard := none }) (v := ?q2v) rfl (by kernel_rfl) (by kernel_rfl) (by kernel_rfl) (fun _ _ _ h => h) (Or.inl ⟨by rfl, ?q2h⟩) hHeld ?q2r
    case q2h => (intro wq hSw; have b0 := hSw.at 0 rfl 0 rfl; clear hSw; go_simp; try with_reducible rfl)
    try simp only [Act.put, List.setIfInBounds_toArray, List.set_cons_zero, List.set_cons_succ]
    refine wpAnyH_take (i := 2) (oi := { dst := some 10, op := Op.call { callee := Callee.builtin Builtin.len, args := #[Operand.tmp 9], argTypes := #[23] }, type := 3, pos := "device.go:217", after := #[{ on := 1, ground := Ground.data }], guard := none }) (v := ?q3v) rfl (by kernel_rfl) (by kernel_rfl) (by kernel_rfl) (fun _ _ _ h => h) (Or.inl ⟨by rfl, ?q3h⟩) hHeld ?q3r
    case q3h => (intro wq hSw; clear hSw; go_simp; try with_reducible rfl)
    try simp only [Act.put, List.setIfInBounds_toArray, List.set_cons_zero, List.set_cons_succ]
    refine wpAnyH_take (i := 4) (oi := { dst := some 12, op := Op.fieldAddr 27 (Operand.tmp 1) 1, type := 0, pos := "device.go:217", after := #[], guard := none }) (v := ?q4v) rfl (by kernel_rfl) (by kernel_rfl) (by kernel_rfl) (fun _ _ _ h => h) (Or.inl ⟨by rfl, ?q4h⟩) hHeld ?q4r
    case q4h => (intro wq hSw; clear hSw; go_simp; try with_reducible rfl)
    try simp only [Act.put, List.setIfInBounds_toArray, List.set_cons_zero, List.set_cons_succ]
    refine wpAnyH_take (i := 5) (oi := { dst := some 13, op := Op.load 3 (Operand.tmp 12), type := 3, pos := "device.go:217", after := #[{ on := 4, ground := Ground.data }], guard := none }) (v := ?q5v) rfl (by kernel_rfl) (by kernel_rfl) (by kernel_rfl) (fun _ _ _ h => h) (Or.inl ⟨by rfl, ?q5h⟩) hHeld ?q5r
    case q5h => (intro wq hSw; have b1 := hSw.at 0 rfl 1 rfl; clear hSw; go_simp; try with_reducible rfl)
    try simp only [Act.put, List.setIfInBounds_toArray, List.set_cons_zero, List.set_cons_succ]
    refine wpAnyH_take (i := 6) (oi := { dst := some 14, op := Op.fieldAddr 27 (Operand.tmp 1) 4, type := 0, pos := "device.go:217", after := #[], guard := none }) (v := ?q6v) rfl (by kernel_rfl) (by kernel_rfl) (by kernel_rfl) (fun _ _ _ h => h) (Or.inl ⟨by rfl, ?q6h⟩) hHeld ?q6r
    case q6h => (intro wq hSw; clear hSw; go_simp; try with_reducible rfl)
    try simp only [Act.put, List.setIfInBounds_toArray, List.set_cons_zero, List.set_cons_succ]
    refine wpAnyH_take (i := 7) (oi := { dst := some 15, op := Op.load 25 (Operand.tmp 14), type := 25, pos := "device.go:217", after := #[{ on := 6, ground := Ground.data }], guard := none }) (v := ?q7v) rfl (by kernel_rfl) (by kernel_rfl) (by kernel_rfl) (fun _ _ _ h => h) (Or.inl ⟨by rfl, ?q7h⟩) hHeld ?q7r
    case q7h => (intro wq hSw; have b4 := hSw.at 0 rfl 4 rfl; clear hSw; go_simp; try with_reducible rfl)
    try simp only [Act.put, List.setIfInBounds_toArray, List.set_cons_zero, List.set_cons_succ]
    refine wpAnyH_ready (rs := [3]) (by kernel_rfl) (by simp) ?_
    refine AllReadyH.cons (o := { dst := some 11, op := Op.call { callee := Callee.value (Operand.func 34), args := #[Operand.tmp 10], argTypes := #[3] }, type := 23, pos := "device.go:217", after := #[{ on := 2, ground := Ground.data }], guard := none }) rfl (fun K hK => ?_) (AllReadyH.nil)
    go_simp
    go_wp2_with (go_at_call 34; refine (pblanks_k d.pages.length _ HOk2.out.1 HOk2.out.2).mono ?_; rintro e w4 ⟨vp, rfl, hb, ho⟩)
    obtain ⟨ap, cp, rfl⟩ := own_slice ho
    have HS3 : Hid (Hp w [.ob (w.heap.size) 27 (dvCells (.slice pa d.pages.length pc) d (.slice ua d.unread.length uc) (.slice fa d.faults.length fc)), .ob B1 27 (dvCells nilS dvNil nilS nilS), .sl ((.slice ap d.pages.length cp)) 9 1 (d.pages.length) (strRow (List.replicate d.pages.length blankPg))] w4) := ((HS2.out).drew).addown hb ho
    refine hK.out _ _ (HS3.out.pick [0] rfl) (fun hHeld => ?_)
    clear hK K hb ho
    try simp only [Act.put, List.setIfInBounds_toArray, List.set_cons_zero, List.set_cons_succ]
    refine wpAnyH_ready (rs := [8]) (by kernel_rfl) (by simp) ?_
    refine AllReadyH.cons (o := { dst := some 16, op := Op.call { callee := Callee.value (Operand.func 41), args := #[Operand.tmp 15], argTypes := #[25] }, type := 25, pos := "device.go:217", after := #[{ on := 7, ground := Ground.data }, { on := 3, ground := Ground.chain }], guard := none }) rfl (fun K hK => ?_) (AllReadyH.nil)
    go_simp
    go_wp2_with (go_at_call 41; refine (HCl.out _ (HS3.out).old).mono ?_; rintro e w5 ⟨vf, rfl, hb, ho⟩)
    obtain ⟨af, cf, rfl⟩ := own_slice ho
    have HS4 : Hid (Hp w [.ob (w.heap.size) 27 (dvCells (.slice pa d.pages.length pc) d (.slice ua d.unread.length uc) (.slice fa d.faults.length fc)), .ob B1 27 (dvCells nilS dvNil nilS nilS), .sl ((.slice ap d.pages.length cp)) 9 1 (d.pages.length) (strRow (List.replicate d.pages.length blankPg)), .sl ((.slice af d.faults.length cf)) 29 6 (d.faults.length) (fltRow d.faults)] w5) := (HS3.out).addown hb ho
    refine hK.out _ _ (HS4.out.pick [0] rfl) (fun hHeld => ?_)
    clear hK K hb ho
    try simp only [Act.put, List.setIfInBounds_toArray, List.set_cons_zero, List.set_cons_succ]
    refine wpAnyH_take (i := 9) (oi := { dst := some 17, op := Op.build 27 #[(0, Operand.tmp 11), (1, Operand.tmp 13), (4, Operand.tmp 16)], type := 27, pos := "device.go:217", after := #[{ on := 3, ground := Ground.data }, { on := 5, ground := Ground.data }, { on := 8, ground := Ground.data }], guard := none }) rfl (by kernel_rfl) (by kernel_rfl) (by kernel_rfl) (fun _ _ _ h => h) (yieldsIf_build_v (by rfl) 27 (.agg (dvCells (.slice ap d.pages.length cp) (⟨List.replicate d.pages.length blankPg, d.writes, [], false, d.faults⟩ : Dv) nilS (.slice af d.faults.length cf)).toArray) rfl (fun W => by simp only [List.map_toArray, List.map_cons, List.map_nil]; exact build_dv2 _ _ _ _ _ _ _ (⟨List.replicate d.pages.length blankPg, d.writes, [], false, d.faults⟩ : Dv) rfl rfl W)) hHeld ?_
    try simp only [Act.put, List.setIfInBounds_toArray, List.set_cons_zero, List.set_cons_succ]
    refine wpAnyH_ready (rs := [10]) (by kernel_rfl) (by simp) ?_
    refine AllReadyH.cons (o := { dst := none, op := Op.store 27 (Operand.tmp 2) (Operand.tmp 17), type := 0, pos := "device.go:217", after := #[{ on := 9, ground := Ground.data }, { on := 8, ground := Ground.chain }, { on := 0, ground := Ground.phase }, { on := 1, ground := Ground.phase }, { on := 2, ground := Ground.phase }, { on := 3, ground := Ground.phase }, { on := 4, ground := Ground.phase }, { on := 5, ground := Ground.phase }, { on := 6, ground := Ground.phase }, { on := 7, ground := Ground.phase }, { on := 8, ground := Ground.phase }, { on := 9, ground := Ground.phase }], guard := none }) rfl (fun K hK => ?_) (AllReadyH.nil)
    rw [if_pos (by rfl)]
    refine wp_store_ob 27 (.tmp 2) (.tmp 17) B1 (dvCells (.slice ap d.pages.length cp) (⟨List.replicate d.pages.length blankPg, d.writes, [], false, d.faults⟩ : Dv) nilS (.slice af d.faults.length cf)) (dvCells nilS dvNil nilS nilS) 27 rfl rfl rfl rfl ((HS4.out).get 1 rfl) (info_dv) (rfl) ((oneCell_dv _ _ _ _ _ _ _ _ _ _)) ?_
    have HS5 : Hid (Hp w [.ob (w.heap.size) 27 (dvCells (.slice pa d.pages.length pc) d (.slice ua d.unread.length uc) (.slice fa d.faults.length fc)), .ob B1 27 (dvCells (.slice ap d.pages.length cp) (⟨List.replicate d.pages.length blankPg, d.writes, [], false, d.faults⟩ : Dv) nilS (.slice af d.faults.length cf)), .sl ((.slice ap d.pages.length cp)) 9 1 (d.pages.length) (strRow (List.replicate d.pages.length blankPg)), .sl ((.slice af d.faults.length cf)) 29 6 (d.faults.length) (fltRow d.faults)] (w5.setRow B1 (dvCells (.slice ap d.pages.length cp) (⟨List.replicate d.pages.length blankPg, d.writes, [], false, d.faults⟩ : Dv) nilS (.slice af d.faults.length cf)).toArray)) := (HS4.out).row 1 rfl (dvCells (.slice ap d.pages.length cp) (⟨List.replicate d.pages.length blankPg, d.writes, [], false, d.faults⟩ : Dv) nilS (.slice af d.faults.length cf))
    refine hK.out _ _ (HS5.out.pick [0] rfl) (fun hHeld => ?_)
    clear hK K
    generalize (w5.setRow B1 (dvCells (.slice ap d.pages.length cp) (⟨List.replicate d.pages.length blankPg, d.writes, [], false, d.faults⟩ : Dv) nilS (.slice af d.faults.length cf)).toArray) = w6 at *
    try simp only [Act.put, List.setIfInBounds_toArray, List.set_cons_zero, List.set_cons_succ]
    refine wpAnyH_take (i := 11) (oi := { dst := some 3, op := Op.assign (Operand.const (Value.int IntKind.i64 0)), type := 35, pos := "device.go:217", after := #[{ on := 10, ground := Ground.chain }, { on := 0, ground := Ground.phase }, { on := 1, ground := Ground.phase }, { on := 2, ground := Ground.phase }, { on := 3, ground := Ground.phase }, { on := 4, ground := Ground.phase }, { on := 5, ground := Ground.phase }, { on := 6, ground := Ground.phase }, { on := 7, ground := Ground.phase }, { on := 8, ground := Ground.phase }, { on := 9, ground := Ground.phase }, { on := 10, ground := Ground.phase }], guard := none }) (v := ?q9v) rfl (by kernel_rfl) (by kernel_rfl) (by kernel_rfl) (fun _ _ _ h => h) (Or.inl ⟨by rfl, ?q9h⟩) hHeld ?q9r
    case q9h => (intro wq hSw; clear hSw; go_simp; try with_reducible rfl)
    try simp only [Act.put, List.setIfInBounds_toArray, List.set_cons_zero, List.set_cons_succ]
    refine wpAnyH_done (by kernel_rfl) ?_ _
    go_wp2_with fail
    refine bodyPost_ret (results_ob_tmp Try.results29 _ _ B1 (dvCells (.slice ap d.pages.length cp) (⟨List.replicate d.pages.length blankPg, d.writes, [], false, d.faults⟩ : Dv) nilS (.slice af d.faults.length cf)) 27 _ rfl (HS5.out.get 1 rfl) HUD.out rfl info_dv) rfl ?_
    have hpo := HS5.out.own 2 rfl
    obtain ⟨R', hrd, hin, hnew⟩ := own_dv (u := nilS) (d := (⟨List.replicate d.pages.length blankPg, d.writes, [], false, d.faults⟩ : Dv)) (B := w.heap.size) (by rw [List.length_replicate]; exact hpo) ⟨rfl, .inl ⟨rfl, rfl⟩⟩ (HS5.out.own 3 rfl)
    have hres : replaceR d = ((⟨List.replicate d.pages.length blankPg, d.writes, [], false, d.faults⟩ : Dv), 0) := by unfold replaceR; rw [if_neg HX.out]
    rw [hres]
    exact ⟨_, _, _, R', rfl, hrd, hin, fun r hr => .inl (hnew r hr), HS5.out.old⟩
end Go.Proofs.Ytlmbnofkmmehoaa
/- devices that are valid, and what the functions of chapter 4 make of them -/
namespace Go.Proofs.Ytlmbnofkmmehoaa
open Go.RowKit
set_option maxRecDepth 20000
set_option linter.unusedSimpArgs false
set_option linter.unusedVariables false

/-- a valid device of n pages, whose faults' numbers are numbers -/
structure DvOk (d : Dv) : Prop where
  some : 1 ≤ d.pages.length ∧ d.pages.length ≤ 64
  all : ∀ s ∈ d.pages, s.size = 256
  asc : d.unread.Pairwise (· < ·)
  unr : ∀ x ∈ d.unread, 0 ≤ x ∧ x < (d.pages.length : Int)
  wr : 0 ≤ d.writes ∧ d.writes ≤ 1099511627776
  few : d.faults.length ≤ 64
  flt : ∀ x ∈ d.faults, fltOkB d.pages.length d.writes x = true
  good : ∀ x ∈ d.faults, GoodFlt x
theorem asc_few {l : List Int} {n : Nat} (h : l.Pairwise (· < ·)) (hr : ∀ x ∈ l, 0 ≤ x ∧ x < (n : Int)) : l.length ≤ n := by
  have hge : ∀ i (hi : i < l.length), (i : Int) ≤ l[i] := by
    intro i
    induction i with
    | zero => intro hi; exact (hr _ (List.getElem_mem hi)).1
    | succ i ih =>
      intro hi
      have h9 := ih (by omega)
      have h10 := List.pairwise_iff_getElem.1 h i (i + 1) (by omega) hi (Nat.lt_succ_self _)
      omega
  rcases Nat.eq_zero_or_pos l.length with h0 | h0
  · omega
  · have h9 := hge (l.length - 1) (by omega)
    have h10 := (hr _ (List.getElem_mem (show l.length - 1 < l.length by omega))).2
    omega
theorem DvOk.ok {d : Dv} (h : DvOk d) : dvOkB d = true := by
  unfold dvOkB
  rw [Bool.and_eq_true, Bool.and_eq_true, Bool.and_eq_true]
  refine ⟨?_, List.all_eq_true.2 (fun s hs => by simpa using h.all s hs), ?_, List.all_eq_true.2 h.flt⟩
  · unfold numsB
    simp only [Bool.and_eq_true, Bool.not_eq_true', decide_eq_false_iff_not]
    have h1 := h.some
    have h2 := h.wr
    have h3 := h.few
    omega
  · refine List.all_eq_true.2 (fun i hi => ?_)
    have hi' := List.mem_range.1 hi
    have h1 := h.unr _ (List.getElem_mem hi')
    have e : d.unread.getD i 0 = d.unread[i] := by rw [List.getD_eq_getElem?_getD, List.getElem?_eq_getElem hi']; rfl
    unfold unreadAtB
    rw [e]
    simp only [Bool.and_eq_true, Bool.not_eq_true', decide_eq_false_iff_not, Bool.and_eq_false_iff]
    refine ⟨by omega, by omega, ?_⟩
    rcases Nat.eq_zero_or_pos i with h0 | h0
    · left; omega
    · right
      have h2 := List.pairwise_iff_getElem.1 h.asc (i - 1) i (by omega) hi' (by omega)
      have e2 : d.unread.getD (i - 1) 0 = d.unread[i - 1]'(by omega) := by rw [List.getD_eq_getElem?_getD, List.getElem?_eq_getElem (by omega)]; rfl
      rw [e2]
      omega
theorem unr_of_ok {d : Dv} (h : dvOkB d = true) : ∀ x ∈ d.unread, 0 ≤ x ∧ x < (d.pages.length : Int) := by
  intro x hx
  obtain ⟨i, hi, rfl⟩ := List.getElem_of_mem hx
  unfold dvOkB at h
  simp only [Bool.and_eq_true] at h
  have hb := (List.all_eq_true.1 h.2.2.1) i (List.mem_range.2 hi)
  have e : d.unread.getD i 0 = d.unread[i] := by rw [List.getD_eq_getElem?_getD, List.getElem?_eq_getElem hi]; rfl
  unfold unreadAtB at hb
  rw [e] at hb
  simp only [Bool.and_eq_true, Bool.not_eq_true', decide_eq_false_iff_not] at hb
  omega
theorem dvOk_of {d : Dv} (h : dvOkB d = true) (hg : ∀ x ∈ d.faults, GoodFlt x) : DvOk d := by
  obtain ⟨h1, h2, h3, h4, h5, h6⟩ := ok_inv h
  have h7 : 1 ≤ d.pages.length := by
    unfold dvOkB numsB at h
    simp only [Bool.and_eq_true, Bool.not_eq_true', decide_eq_false_iff_not] at h
    omega
  exact ⟨⟨h7, h2⟩, h1.all, h1.asc, unr_of_ok h, ⟨h4, h5⟩, h3, h6, hg⟩
theorem DvOk.goodDv {d : Dv} (h : DvOk d) : GoodDv d := ⟨h.good, fun s hs => by rw [h.all s hs]; decide, by have := asc_few h.asc h.unr; have := h.some; omega⟩
theorem DvOk.pg {d : Dv} (h : DvOk d) : d.pages.length ≤ 1000 := by have := h.some; omega
theorem DvOk.fl {d : Dv} (h : DvOk d) : d.faults.length ≤ 1000 := by have := h.few; omega
theorem new_ok {n : Nat} (h : 1 ≤ n ∧ n ≤ 64) : newR n = (⟨List.replicate n blankPg, 0, [], false, []⟩, 0) ∧ DvOk ⟨List.replicate n blankPg, 0, [], false, []⟩ := by
  refine ⟨by unfold newR; rw [if_neg (by omega), Int.toNat_natCast], ?_⟩
  exact ⟨by simpa using h, fun s hs => by rw [List.eq_of_mem_replicate hs]; rfl, List.Pairwise.nil, by simp, ⟨Int.le_refl _, by show (0 : Int) ≤ 1099511627776; decide⟩, by simp, by simp, by simp⟩
theorem usable_zero {d : Dv} (h : DvOk d) (hd : d.dead = false) {k : Nat} (hk : k < d.pages.length) : usableR d (k : Int) = 0 := by
  unfold usableR
  rw [if_neg (by rw [h.ok]; decide), if_neg (by rw [hd]; decide), if_neg (by omega)]
theorem happen_unr {d : Dv} {x : Flt} (hx : 0 ≤ x.page ∧ x.page < (d.pages.length : Int)) (h : ∀ y ∈ d.unread, 0 ≤ y ∧ y < (d.pages.length : Int)) : ∀ y ∈ (happenR d x).unread, 0 ≤ y ∧ y < (d.pages.length : Int) := by
  unfold happenR
  split
  · exact h
  · split
    · intro y hy
      rcases with_mem hy with h1 | h1
      · rw [h1]; exact hx
      · exact h y h1
    · split
      · exact h
      · exact h
theorem happen_num (d : Dv) (x : Flt) : (happenR d x).pages.length = d.pages.length := by
  unfold happenR
  split
  · simp
  · split
    · rfl
    · split <;> rfl
theorem happen_wr (d : Dv) (x : Flt) : (happenR d x).writes = d.writes := by
  unfold happenR
  split
  · rfl
  · split
    · rfl
    · split <;> rfl
theorem fold_keep : ∀ (l : List Flt) (d : Dv), (∀ x ∈ l, 0 ≤ x.page ∧ x.page < (d.pages.length : Int)) → (∀ y ∈ d.unread, 0 ≤ y ∧ y < (d.pages.length : Int)) → (l.foldl happenR d).pages.length = d.pages.length ∧ (l.foldl happenR d).writes = d.writes ∧ ∀ y ∈ (l.foldl happenR d).unread, 0 ≤ y ∧ y < (d.pages.length : Int)
  | [], d, _, h => ⟨rfl, rfl, h⟩
  | x :: l, d, hl, h => by
    have e := happen_num d x
    have h1 := happen_unr (hl x (List.mem_cons_self ..)) h
    have := fold_keep l (happenR d x) (fun y hy => by rw [e]; exact hl y (List.mem_cons_of_mem _ hy)) (by rw [e]; exact h1)
    rw [e] at this
    exact ⟨this.1, this.2.1.trans (happen_wr d x), this.2.2⟩
theorem land_keep (d : Dv) (page : Int) (s : ByteArray) : ∀ l : List Flt, (∀ y ∈ d.unread, 0 ≤ y ∧ y < (d.pages.length : Int)) → (landR d page s l).pages.length = d.pages.length ∧ (landR d page s l).writes = d.writes ∧ ∀ y ∈ (landR d page s l).unread, 0 ≤ y ∧ y < (d.pages.length : Int)
  | [], h => ⟨by simp [landR, placeR], rfl, fun y hy => h y (List.mem_filter.1 hy).1⟩
  | x :: l, h => by
    unfold landR
    split
    · exact ⟨rfl, rfl, h⟩
    · split
      · exact ⟨by simp [placeR], rfl, fun y hy => h y (List.mem_filter.1 hy).1⟩
      · split
        · exact ⟨by simp [placeR], rfl, fun y hy => h y (List.mem_filter.1 hy).1⟩
        · exact land_keep d page s l h
theorem flt_later {n : Nat} {w : Int} {x : Flt} (h : fltOkB n w x = true) (hne : ¬ x.at_ = w + 1) : fltOkB n (w + 1) x = true := by
  unfold fltOkB rangesB at h ⊢
  simp only [Bool.and_eq_true, Bool.not_eq_true', decide_eq_false_iff_not] at h ⊢
  obtain ⟨⟨h1, h2⟩, h3⟩ := h
  exact ⟨⟨by omega, h2⟩, h3⟩
/-- a write that is not refused leaves a valid device -/
theorem write_ok {d : Dv} (h : DvOk d) (hd : d.dead = false) {k : Nat} (hk : k < d.pages.length) {s : ByteArray} (hs : s.size = 256) (hw : d.writes ≠ 1099511627776) :
    writeR d k s = ((nowR d).foldl happenR (landR ⟨d.pages, d.writes + 1, d.unread, d.dead, laterR d⟩ k s (nowR d)), 0) ∧ DvOk (writeR d k s).1 := by
  have hu := usable_zero h hd hk
  have e : writeR d k s = ((nowR d).foldl happenR (landR ⟨d.pages, d.writes + 1, d.unread, d.dead, laterR d⟩ k s (nowR d)), 0) := by
    unfold writeR
    rw [if_neg (by rw [hu]; decide), if_neg (fun h => h hs), if_neg hw]
  refine ⟨e, ?_⟩
  rw [e]
  have hnow : ∀ x ∈ nowR d, ((0 ≤ x.target ∧ x.target < (d.pages.length : Int)) ∧ (0 ≤ x.byte ∧ x.byte < 256) ∧ (0 ≤ x.page ∧ x.page < (d.pages.length : Int))) := fun x hx => flt_ranges (h.flt x (List.mem_filter.1 hx).1)
  have hi : DvInv d.pages.length 64 ⟨d.pages, d.writes + 1, d.unread, d.dead, laterR d⟩ := ⟨rfl, h.all, h.asc, by have := asc_few h.asc h.unr; have := h.some; show d.unread.length ≤ 64; omega⟩
  have hl := land_inv hi k ⟨by omega, by omega⟩ s hs (nowR d) (fun x hx => ⟨(hnow x hx).1, (hnow x hx).2.1⟩)
  have hf := fold_inv (nowR d) hl
  obtain ⟨k1, k2, k3⟩ := land_keep ⟨d.pages, d.writes + 1, d.unread, d.dead, laterR d⟩ k s (nowR d) h.unr
  obtain ⟨f1, f2, f3⟩ := fold_keep (nowR d) (landR ⟨d.pages, d.writes + 1, d.unread, d.dead, laterR d⟩ k s (nowR d)) (fun x hx => by rw [k1]; exact (hnow x hx).2.2) (by rw [k1]; exact k3)
  have hfl : ((nowR d).foldl happenR (landR ⟨d.pages, d.writes + 1, d.unread, d.dead, laterR d⟩ k s (nowR d))).faults = laterR d := by rw [fold_faults, land_faults]
  have f2' : ((nowR d).foldl happenR (landR ⟨d.pages, d.writes + 1, d.unread, d.dead, laterR d⟩ k s (nowR d))).writes = d.writes + 1 := f2.trans k2
  have f1' : ((nowR d).foldl happenR (landR ⟨d.pages, d.writes + 1, d.unread, d.dead, laterR d⟩ k s (nowR d))).pages.length = d.pages.length := f1.trans k1
  refine ⟨by show 1 ≤ (List.length _) ∧ _; rw [f1']; exact h.some, hf.all, hf.asc, fun x hx => ?_, ?_, ?_, ?_, ?_⟩
  · have := f3 x hx
    rw [k1] at this
    show 0 ≤ x ∧ x < ((List.length _ : Nat) : Int)
    rw [f1']
    exact this
  · show 0 ≤ Dv.writes _ ∧ Dv.writes _ ≤ _
    rw [f2']
    have := h.wr
    omega
  · show (Dv.faults _).length ≤ 64
    rw [hfl]
    exact Nat.le_trans (List.length_filter_le _ _) h.few
  · intro x hx
    have hx' : x ∈ laterR d := by rw [← hfl]; exact hx
    show fltOkB (List.length _) (Dv.writes _) x = true
    rw [f1', f2']
    have hm := List.mem_filter.1 hx'
    exact flt_later (h.flt x hm.1) (by simpa using hm.2)
  · intro x hx
    have hx' : x ∈ laterR d := by rw [← hfl]; exact hx
    exact h.good x (List.mem_filter.1 hx').1
theorem inject_ok {d : Dv} (h : DvOk d) {x : Flt} (hx : fltOkB d.pages.length d.writes x = true) (hg : GoodFlt x) (hl : d.faults.length < 64) : injectR d x = (⟨d.pages, d.writes, d.unread, d.dead, d.faults ++ [x]⟩, 0) ∧ DvOk ⟨d.pages, d.writes, d.unread, d.dead, d.faults ++ [x]⟩ := by
  refine ⟨by unfold injectR; rw [if_neg (by rw [h.ok]; decide), if_neg (by rw [hx]; decide), if_neg (by omega)], ⟨h.some, h.all, h.asc, h.unr, h.wr, by simp; omega, fun y hy => ?_, fun y hy => ?_⟩⟩
  · rcases List.mem_append.1 hy with h1 | h1
    · exact h.flt y h1
    · rw [List.mem_singleton.1 h1]; exact hx
  · rcases List.mem_append.1 hy with h1 | h1
    · exact h.good y h1
    · rw [List.mem_singleton.1 h1]; exact hg
theorem tear_ok {d : Dv} (h : DvOk d) (hd : d.dead = false) {k : Nat} (hk : k < d.pages.length) {s : ByteArray} (hs : s.size = 256) {c : Nat} (hc : c ≤ 256) : tearR d k s c = (placeR d k s c, 0) ∧ DvOk (placeR d k s c) := by
  have hu := usable_zero h hd hk
  refine ⟨by unfold tearR; rw [if_neg (by rw [hu]; decide), if_neg (by omega), if_neg (fun h => h hs), Int.toNat_natCast], ?_⟩
  have hi : DvInv d.pages.length 64 d := ⟨rfl, h.all, h.asc, by have := asc_few h.asc h.unr; have := h.some; omega⟩
  have hp := place_inv hi k ⟨by omega, by omega⟩ s hs c hc
  have hn : (placeR d k s c).pages.length = d.pages.length := hp.num
  refine ⟨by show 1 ≤ List.length _ ∧ _; rw [hn]; exact h.some, hp.all, hp.asc, fun x hx => ?_, h.wr, h.few, ?_, h.good⟩
  · show 0 ≤ x ∧ x < ((List.length _ : Nat) : Int)
    rw [hn]
    exact h.unr x (List.mem_filter.1 hx).1
  · intro x hx
    show fltOkB (List.length _) _ x = true
    rw [hn]
    exact h.flt x hx
theorem replace_ok {d : Dv} (h : DvOk d) : replaceR d = (⟨List.replicate d.pages.length blankPg, d.writes, [], false, d.faults⟩, 0) ∧ DvOk ⟨List.replicate d.pages.length blankPg, d.writes, [], false, d.faults⟩ := by
  refine ⟨by unfold replaceR; rw [if_neg (by rw [h.ok]; decide)], ⟨by simpa using h.some, fun s hs => by rw [List.eq_of_mem_replicate hs]; rfl, List.Pairwise.nil, by simp, h.wr, h.few, fun x hx => ?_, h.good⟩⟩
  show fltOkB (List.length _) _ x = true
  rw [List.length_replicate]
  exact h.flt x hx
theorem read_ok {d : Dv} (h : DvOk d) (hd : d.dead = false) {k : Nat} (hk : k < d.pages.length) (hu : (k : Int) ∉ d.unread) : readR d k = (d.pages[k], 0) := by
  have hz := usable_zero h hd hk
  unfold readR
  have hh : hasB d.unread k = false := by
    unfold hasB
    rw [List.any_eq_false]
    intro x hx
    simp only [decide_eq_true_eq]
    intro e
    rw [e] at hx
    exact hu hx
  rw [if_neg (by rw [hz]; decide), if_neg (by rw [hh]; decide), Int.toNat_natCast, List.getD_eq_getElem?_getD, List.getElem?_eq_getElem hk]
  rfl
theorem dv_as {f : FuncId} {args : Array Value} {w w1 : World} {R : List Rng} {x y : Dv × Int} (h : x = y) (c : Calls Try.prog f args w (DvPost w1 R x)) : Calls Try.prog f args w (DvPost w1 R y) := h ▸ c
end Go.Proofs.Ytlmbnofkmmehoaa
/- the law's awake: the example of chapter 4 -/
namespace Go.Proofs.Ytlmbnofkmmehoaa
open Go.RowKit
set_option maxRecDepth 20000
set_option linter.unusedSimpArgs false
set_option linter.unusedVariables false

def txt (B : ByteArray) (c : UInt8) : ByteArray := B ++ ⟨#[c]⟩
def fltLost : Flt := ⟨1, 2, 0, 0, 0, 0⟩
theorem awake_facts (a b : ByteArray) (ha : a.size = 256) (hb : b.size = 256) : ∃ d0 d1 d2 d3 : Dv, (newR 1 = (d0, 0) ∧ injectR d0 fltLost = (d1, 0) ∧ writeR d1 0 a = (d2, 0) ∧ writeR d2 0 b = (d3, 0) ∧ readR d3 0 = (a, 0)) ∧ DvOk d0 ∧ DvOk d1 ∧ DvOk d2 ∧ DvOk d3 := by
  obtain ⟨n1, n2⟩ := new_ok (n := 1) (by decide)
  have hgf : GoodFlt fltLost := ⟨by decide, by decide, by decide, by decide, by decide, by decide⟩
  obtain ⟨i1, i2⟩ := inject_ok n2 (x := fltLost) (by decide) hgf (by decide)
  have e0 : List.replicate 1 blankPg = [blankPg] := rfl
  rw [e0] at n1 n2 i1 i2
  generalize hbl : blankPg = B at *
  have hB : B.size = 256 := by rw [← hbl]; rfl
  obtain ⟨w1, w2⟩ := write_ok i2 rfl (k := 0) Nat.zero_lt_one ha (by show (0 : Int) ≠ 1099511627776; decide)
  have ew : writeR ⟨[B], 0, [], false, [] ++ [fltLost]⟩ ((0 : Nat) : Int) a = (⟨[a], 1, [], false, [fltLost]⟩, 0) := by
    rw [w1]
    have ea : a.extract 0 256 ++ B.extract 256 256 = a := by
      rw [extract_all a ha]
      apply ByteArray.ext
      simp
    show ((([fltLost] : List Flt).filter fun f => decide (f.at_ = (0 : Int) + 1)).foldl happenR (landR ⟨[B], 0 + 1, [], false, [fltLost].filter fun f => !decide (f.at_ = (0 : Int) + 1)⟩ ((0 : Nat) : Int) a (([fltLost] : List Flt).filter fun f => decide (f.at_ = (0 : Int) + 1))), (0 : Int)) = _
    show (placeR ⟨[B], 0 + 1, [], false, [fltLost]⟩ ((0 : Nat) : Int) a 256, (0 : Int)) = _
    unfold placeR
    show ((⟨[a.extract 0 256 ++ B.extract 256 256], 0 + 1, [], false, [fltLost]⟩ : Dv), (0 : Int)) = _
    rw [ea]
    rfl
  rw [ew] at w2
  obtain ⟨v1, v2⟩ := write_ok w2 rfl (k := 0) Nat.zero_lt_one hb (by show (1 : Int) ≠ 1099511627776; decide)
  have ev : writeR ⟨[a], 1, [], false, [fltLost]⟩ ((0 : Nat) : Int) b = (⟨[a], 2, [], false, []⟩, 0) := by
    rw [v1]
    rfl
  rw [ev] at v2
  refine ⟨_, _, _, _, ⟨n1, i1, ew, ev, ?_⟩, n2, i2, w2, v2⟩
  exact read_ok v2 rfl (k := 0) Nat.zero_lt_one (by simp)
theorem made255 : ∃ (L : List Value) (B : ByteArray), B.size = 255 ∧ (∀ w : World, Sem.run Try.prog (Instr.makeSlice 22 (.int .i64 255) (.int .i64 255)) w = .ok (.slice (some ⟨w.heap.size, 0, none⟩) 255 255) (w.alloc (.cells L.toArray 5))) ∧
    (∀ (w : World) (g : Nat), w.heap[g]? = some (.cells L.toArray 5 (0, 0)) → Sem.run Try.prog (convert 22 9 (.slice (some ⟨g, 0, none⟩) 255 255)) w = .ok (.string B) w) := by
  refine ⟨(List.replicate 255 (0 : UInt8)).map (fun b => Value.int .u8 (b.toNat : Int)), ⟨(List.replicate 255 (0 : UInt8)).toArray⟩, by show Array.size _ = _; simp, fun w => ?_, fun w g hg => ?_⟩
  · have hmk : Sem.run Try.prog (Instr.makeSlice 22 (.int .i64 255) (.int .i64 255)) w = .ok (.slice (some ⟨w.heap.size, 0, none⟩) 255 255) (w.alloc (.cells (madeCells #[.int .u8 0] 255) 5)) :=
      run_make_row' 22 5 (.int .u8 0) 1 Try.underlying22 info_byte rfl .i64 .i64 255 (by decide) (by decide) w
    rw [made_row] at hmk
    exact hmk
  · have hR : RowIn w g (List.replicate 255 (0 : UInt8)) := hg
    exact hR.conv 255 255 (len_rep 255).symm
theorem build_flt2 (a b : Int) (W : World) : Sem.run Try.prog (Instr.build 29 #[(0, .int .i64 a), (1, .int .i64 b)]) W = .ok (.agg (fltCells ⟨a, b, 0, 0, 0, 0⟩).toArray) W := by kernel_rfl
set_option maxHeartbeats 16000000 in
theorem awake4 (w : World) : Calls Try.prog 9 #[] w fun e w' => e = .returned (.bool true) ∧ Below w.heap.size w w' := by
  obtain ⟨L0, B0, hB0, hmk, hcv⟩ := made255
  obtain ⟨sa, hsa⟩ : ∃ sa, sa = B0 ++ (⟨#[97]⟩ : ByteArray) := ⟨_, rfl⟩
  obtain ⟨sb, hsb⟩ : ∃ sb, sb = B0 ++ (⟨#[98]⟩ : ByteArray) := ⟨_, rfl⟩
  have hza : sa.size = 256 := by rw [hsa, ByteArray.size_append, hB0]; rfl
  have hzb : sb.size = 256 := by rw [hsb, ByteArray.size_append, hB0]; rfl
  obtain ⟨d0, d1, d2, d3, ⟨e1, e2, e3, e4, e5⟩, o0, o1, o2, o3⟩ := awake_facts sa sb hza hzb
  have HE : Hid ((newR 1 = (d0, 0) ∧ injectR d0 fltLost = (d1, 0) ∧ writeR d1 0 sa = (d2, 0) ∧ writeR d2 0 sb = (d3, 0) ∧ readR d3 0 = (sa, 0)) ∧ DvOk d0 ∧ DvOk d1 ∧ DvOk d2 ∧ DvOk d3) := ⟨⟨e1, e2, e3, e4, e5⟩, o0, o1, o2, o3⟩
  have HMk := Lib.hid hmk
  have HCv := Lib.hid hcv
  have HZ : Hid (sa.size ≤ maxLen ∧ sb.size ≤ maxLen) := ⟨by rw [hza]; decide, by rw [hzb]; decide⟩
  have HSS : Hid (sa = B0 ++ (⟨#[97]⟩ : ByteArray) ∧ sb = B0 ++ (⟨#[98]⟩ : ByteArray)) := ⟨hsa, hsb⟩
  obtain ⟨fs, hud⟩ := under_dv
  have HUD := Lib.hid hud
  obtain ⟨fs2, huf⟩ := under_flt
  have HUF := Lib.hid huf
  clear hud huf
  have HFG : Hid (GoodFlt fltLost) := ⟨by decide, by decide, by decide, by decide, by decide, by decide⟩
  have HS0 : Hid (Hp w [] w) := Hp.start w
  have HB0 := Lib.hid hB0
  clear hmk hcv hsa hsb hza hzb e1 e2 e3 e4 e5 o0 o1 o2 o3 hB0
  go_enter Try.func9, Try.ntmps9
  go_wp2_with fail
  refine (dv_as HE.out.1.1 (new_dv 1 _)).mono ?_
  rintro e w3 ⟨p0, u0, f0, R0, rfl, hrd, hin, hnew, hb⟩
  obtain ⟨ap0, cp0, rfl, _⟩ := hrd.pages
  obtain ⟨au0, cu0, rfl, _⟩ := hrd.unread
  obtain ⟨af0, cf0, rfl, _⟩ := hrd.faults
  have HDv0 := Lib.hid hrd
  have HS1 : Hid (Hp w [.rd R0] w3) := (HS0.out).addrd hb R0 hin (fun r hr => (hnew r hr).elim .inl (fun h => absurd h List.not_mem_nil))
  clear hb hin hnew hrd
  clear HS0
  go_wp2_with (first | ((with_reducible refine wpList_alloc_ob 27 (dvCells nilS dvNil nilS nilS) ?_ ?_); (exact alloc_dv); simp only [Act.put, List.setIfInBounds_toArray, List.set_cons_zero, List.set_cons_succ]) | ((with_reducible refine wpList_store_ob 27 (.tmp 1) (w3.heap.size) (dvCells (.slice ap0 d0.pages.length cp0) d0 (.slice au0 d0.unread.length cu0) (.slice af0 d0.faults.length cf0)) (dvCells nilS dvNil nilS nilS) 27 ?_ ?_ ?_ ?_ ?_ ?_ ?_); (exact rfl); (exact rfl); (exact ((HS1.out).put 27 (dvCells nilS dvNil nilS nilS)).get 1 rfl); (exact info_dv); (exact rfl); (exact (oneCell_dv _ _ _ _ _ _ _ _ _ _)); skip) | ((with_reducible refine wpList_load_ob 27 (.tmp 1) (w3.heap.size) (dvCells (.slice ap0 d0.pages.length cp0) d0 (.slice au0 d0.unread.length cu0) (.slice af0 d0.faults.length cf0)) 27 HUD.out ?_ ?_ ?_ ?_ ?_); (exact rfl); (exact (((HS1.out).put 27 (dvCells nilS dvNil nilS nilS)).row 1 rfl (dvCells (.slice ap0 d0.pages.length cp0) d0 (.slice au0 d0.unread.length cu0) (.slice af0 d0.faults.length cf0))).get 1 rfl); (exact rfl); (exact info_dv); simp only [Act.put, List.setIfInBounds_toArray, List.set_cons_zero, List.set_cons_succ]) | ((with_reducible refine wpList_build_v 29 (.agg (fltCells fltLost).toArray) ?_ ?_); (intro W; simp only [List.map_toArray, List.map_cons, List.map_nil]; exact build_flt2 1 2 W); simp only [Act.put, List.setIfInBounds_toArray, List.set_cons_zero, List.set_cons_succ]))
  refine (dv_as HE.out.1.2.1 (inject_any fltLost _ HDv0.out ((((HS1.out).put 27 (dvCells nilS dvNil nilS nilS)).row 1 rfl (dvCells (.slice ap0 d0.pages.length cp0) d0 (.slice au0 d0.unread.length cu0) (.slice af0 d0.faults.length cf0))).reads 0 rfl) HE.out.2.1.goodDv HFG.out HE.out.2.1.pg HE.out.2.1.fl)).mono ?_
  rintro e w4 ⟨p1, u1, f1, R1, rfl, hrd, hin, hnew, hb⟩
  obtain ⟨ap1, cp1, rfl, _⟩ := hrd.pages
  obtain ⟨au1, cu1, rfl, _⟩ := hrd.unread
  obtain ⟨af1, cf1, rfl, _⟩ := hrd.faults
  have HDv1 := Lib.hid hrd
  have HS2 : Hid (Hp w [.rd R0, .ob (w3.heap.size) 27 (dvCells (.slice ap0 d0.pages.length cp0) d0 (.slice au0 d0.unread.length cu0) (.slice af0 d0.faults.length cf0)), .rd R1] w4) := (((HS1.out).put 27 (dvCells nilS dvNil nilS nilS)).row 1 rfl (dvCells (.slice ap0 d0.pages.length cp0) d0 (.slice au0 d0.unread.length cu0) (.slice af0 d0.faults.length cf0))).addrd hb R1 hin (fun r hr => (hnew r hr).elim .inl (fun h => .inr ⟨.rd R0, List.mem_of_getElem? (i := 0) rfl, List.mem_map.2 ⟨r, h, rfl⟩⟩))
  clear hb hin hnew hrd
  clear HS1
  generalize w3.heap.size = B1 at *
  go_upto_region 3 with (first | ((with_reducible refine wpList_store_ob 27 (.tmp 1) B1 (dvCells (.slice ap1 d1.pages.length cp1) d1 (.slice au1 d1.unread.length cu1) (.slice af1 d1.faults.length cf1)) (dvCells (.slice ap0 d0.pages.length cp0) d0 (.slice au0 d0.unread.length cu0) (.slice af0 d0.faults.length cf0)) 27 ?_ ?_ ?_ ?_ ?_ ?_ ?_); (exact rfl); (exact rfl); (exact (HS2.out).get 1 rfl); (exact info_dv); (exact rfl); (exact (oneCell_dv _ _ _ _ _ _ _ _ _ _)); skip))
  have HS3 : Hid (Hp w [.rd R0, .ob B1 27 (dvCells (.slice ap1 d1.pages.length cp1) d1 (.slice au1 d1.unread.length cu1) (.slice af1 d1.faults.length cf1)), .rd R1] (w4.setRow B1 (dvCells (.slice ap1 d1.pages.length cp1) d1 (.slice au1 d1.unread.length cu1) (.slice af1 d1.faults.length cf1)).toArray)) := (HS2.out).row 1 rfl (dvCells (.slice ap1 d1.pages.length cp1) d1 (.slice au1 d1.unread.length cu1) (.slice af1 d1.faults.length cf1))
  clear HS2
  generalize (w4.setRow B1 (dvCells (.slice ap1 d1.pages.length cp1) d1 (.slice au1 d1.unread.length cu1) (.slice af1 d1.faults.length cf1)).toArray) = w5 at *
  have HS4 : Hid (Hp w [.ob B1 27 (dvCells (.slice ap1 d1.pages.length cp1) d1 (.slice au1 d1.unread.length cu1) (.slice af1 d1.faults.length cf1)), .rd R1] w5) := HS3.out.pull [1, 2] rfl (pull_nd HS3.out.nd [1, 2] rfl (by decide))
  clear HS3
  have m1 : Sem.run Try.prog (Instr.makeSlice 22 (.int .i64 255) (.int .i64 255)) w5.drew = .ok (.slice (some ⟨w5.heap.size, 0, none⟩) 255 255) (w5.alloc (.cells L0.toArray 5)).drew := HMk.out w5.drew
  have m2 : Sem.run Try.prog (Instr.makeSlice 22 (.int .i64 255) (.int .i64 255)) (w5.alloc (.cells L0.toArray 5)).drew = .ok (.slice (some ⟨w5.heap.size + 1, 0, none⟩) 255 255) ((w5.alloc (.cells L0.toArray 5)).alloc (.cells L0.toArray 5)).drew := by
    have h := HMk.out (w5.alloc (.cells L0.toArray 5)).drew
    rw [show (w5.alloc (.cells L0.toArray 5)).drew.heap.size = w5.heap.size + 1 from by simp] at h
    exact h
  have q1 : Sem.run Try.prog (convert 22 9 (.slice (some ⟨w5.heap.size, 0, none⟩) 255 255)) (w5.alloc (.cells L0.toArray 5)).drew = .ok (.string B0) (w5.alloc (.cells L0.toArray 5)).drew := HCv.out _ _ (heap_alloc_last w5 _)
  have q2 : Sem.run Try.prog (convert 22 9 (.slice (some ⟨w5.heap.size, 0, none⟩) 255 255)) ((w5.alloc (.cells L0.toArray 5)).alloc (.cells L0.toArray 5)).drew = .ok (.string B0) ((w5.alloc (.cells L0.toArray 5)).alloc (.cells L0.toArray 5)).drew := HCv.out _ _ (by
    show (w5.heap.push _ |>.push _)[w5.heap.size]? = _
    rw [Array.getElem?_push, if_neg (by simp), Array.getElem?_push, if_pos rfl])
  have q3 : Sem.run Try.prog (convert 22 9 (.slice (some ⟨w5.heap.size + 1, 0, none⟩) 255 255)) ((w5.alloc (.cells L0.toArray 5)).alloc (.cells L0.toArray 5)).drew = .ok (.string B0) ((w5.alloc (.cells L0.toArray 5)).alloc (.cells L0.toArray 5)).drew := HCv.out _ _ (by
    show (w5.heap.push _ |>.push _)[w5.heap.size + 1]? = _
    rw [Array.getElem?_push, if_pos (by simp)])
  have hB255 : B0.size = 255 := HB0.out
  have hca : B0 ++ (⟨#[97]⟩ : ByteArray) = sa := HSS.out.1.symm
  have hcb : B0 ++ (⟨#[98]⟩ : ByteArray) = sb := HSS.out.2.symm
  have HS9 : Hid (Hp w [.ob B1 27 (dvCells (.slice ap1 d1.pages.length cp1) d1 (.slice au1 d1.unread.length cu1) (.slice af1 d1.faults.length cf1)), .rd R1] ((w5.alloc (.cells L0.toArray 5)).alloc (.cells L0.toArray 5)).drew) := (HS4.out.calls (((Below.refl w5.heap.size w5).alloc (Nat.le_refl _) _).alloc (by simp) _)).drew
  go_cut [4, 5] (fun s4 s5 wx => s4 = .string sa ∧ s5 = .string sb ∧ Hp w [.ob B1 27 (dvCells (.slice ap1 d1.pages.length cp1) d1 (.slice au1 d1.unread.length cu1) (.slice af1 d1.faults.length cf1)), .rd R1] wx)
  case first =>
    go_region
    all_goals (go_wp2_with fail; go_meet; exact ⟨rfl, rfl, HS9.out⟩)
  case rest =>
    obtain ⟨rfl, rfl, hs9⟩ := hcut
    clear m1 m2 q1 q2 q3 hB255 hca hcb HS9 HS4
    have HS10 := Lib.hid hs9
    clear hs9
    generalize wc = w50 at *
    go_wp2_with (first | ((with_reducible refine wpList_load_ob 27 (.tmp 1) B1 (dvCells (.slice ap1 d1.pages.length cp1) d1 (.slice au1 d1.unread.length cu1) (.slice af1 d1.faults.length cf1)) 27 HUD.out ?_ ?_ ?_ ?_ ?_); (exact rfl); (exact (HS10.out).get 0 rfl); (exact rfl); (exact info_dv); simp only [Act.put, List.setIfInBounds_toArray, List.set_cons_zero, List.set_cons_succ]))
    refine (dv_as HE.out.1.2.2.1 (write_any 0 sa _ HDv1.out ((HS10.out).reads 1 rfl) HE.out.2.2.1.goodDv HZ.out.1 HE.out.2.2.1.pg HE.out.2.2.1.fl)).mono ?_
    rintro e w61 ⟨p2, u2, f2, R2, rfl, hrd, hin, hnew, hb⟩
    obtain ⟨ap2, cp2, rfl, _⟩ := hrd.pages
    obtain ⟨au2, cu2, rfl, _⟩ := hrd.unread
    obtain ⟨af2, cf2, rfl, _⟩ := hrd.faults
    have HDv2 := Lib.hid hrd
    have HS11 : Hid (Hp w [.ob B1 27 (dvCells (.slice ap1 d1.pages.length cp1) d1 (.slice au1 d1.unread.length cu1) (.slice af1 d1.faults.length cf1)), .rd R1, .rd R2] w61) := (HS10.out).addrd hb R2 hin (fun r hr => (hnew r hr).elim .inl (fun h => .inr ⟨.rd R1, List.mem_of_getElem? (i := 1) rfl, List.mem_map.2 ⟨r, h, rfl⟩⟩))
    clear hb hin hnew hrd
    clear HS10
    go_wp2_with (first | ((with_reducible refine wpList_store_ob 27 (.tmp 1) B1 (dvCells (.slice ap2 d2.pages.length cp2) d2 (.slice au2 d2.unread.length cu2) (.slice af2 d2.faults.length cf2)) (dvCells (.slice ap1 d1.pages.length cp1) d1 (.slice au1 d1.unread.length cu1) (.slice af1 d1.faults.length cf1)) 27 ?_ ?_ ?_ ?_ ?_ ?_ ?_); (exact rfl); (exact rfl); (exact (HS11.out).get 0 rfl); (exact info_dv); (exact rfl); (exact (oneCell_dv _ _ _ _ _ _ _ _ _ _)); skip) | ((with_reducible refine wpList_load_ob 27 (.tmp 1) B1 (dvCells (.slice ap2 d2.pages.length cp2) d2 (.slice au2 d2.unread.length cu2) (.slice af2 d2.faults.length cf2)) 27 HUD.out ?_ ?_ ?_ ?_ ?_); (exact rfl); (exact ((HS11.out).row 0 rfl (dvCells (.slice ap2 d2.pages.length cp2) d2 (.slice au2 d2.unread.length cu2) (.slice af2 d2.faults.length cf2))).get 0 rfl); (exact rfl); (exact info_dv); simp only [Act.put, List.setIfInBounds_toArray, List.set_cons_zero, List.set_cons_succ]))
    refine (dv_as HE.out.1.2.2.2.1 (write_any 0 sb _ HDv2.out (((HS11.out).row 0 rfl (dvCells (.slice ap2 d2.pages.length cp2) d2 (.slice au2 d2.unread.length cu2) (.slice af2 d2.faults.length cf2))).reads 2 rfl) HE.out.2.2.2.1.goodDv HZ.out.2 HE.out.2.2.2.1.pg HE.out.2.2.2.1.fl)).mono ?_
    rintro e w62 ⟨p3, u3, f3, R3, rfl, hrd, hin, hnew, hb⟩
    obtain ⟨ap3, cp3, rfl, _⟩ := hrd.pages
    obtain ⟨au3, cu3, rfl, _⟩ := hrd.unread
    obtain ⟨af3, cf3, rfl, _⟩ := hrd.faults
    have HDv3 := Lib.hid hrd
    have HS12 : Hid (Hp w [.ob B1 27 (dvCells (.slice ap2 d2.pages.length cp2) d2 (.slice au2 d2.unread.length cu2) (.slice af2 d2.faults.length cf2)), .rd R1, .rd R2, .rd R3] w62) := ((HS11.out).row 0 rfl (dvCells (.slice ap2 d2.pages.length cp2) d2 (.slice au2 d2.unread.length cu2) (.slice af2 d2.faults.length cf2))).addrd hb R3 hin (fun r hr => (hnew r hr).elim .inl (fun h => .inr ⟨.rd R2, List.mem_of_getElem? (i := 2) rfl, List.mem_map.2 ⟨r, h, rfl⟩⟩))
    clear hb hin hnew hrd
    clear HS11
    go_wp2_with (first | ((with_reducible refine wpList_store_ob 27 (.tmp 1) B1 (dvCells (.slice ap3 d3.pages.length cp3) d3 (.slice au3 d3.unread.length cu3) (.slice af3 d3.faults.length cf3)) (dvCells (.slice ap2 d2.pages.length cp2) d2 (.slice au2 d2.unread.length cu2) (.slice af2 d2.faults.length cf2)) 27 ?_ ?_ ?_ ?_ ?_ ?_ ?_); (exact rfl); (exact rfl); (exact (HS12.out).get 0 rfl); (exact info_dv); (exact rfl); (exact (oneCell_dv _ _ _ _ _ _ _ _ _ _)); skip) | ((with_reducible refine wpList_load_ob 27 (.tmp 1) B1 (dvCells (.slice ap3 d3.pages.length cp3) d3 (.slice au3 d3.unread.length cu3) (.slice af3 d3.faults.length cf3)) 27 HUD.out ?_ ?_ ?_ ?_ ?_); (exact rfl); (exact ((HS12.out).row 0 rfl (dvCells (.slice ap3 d3.pages.length cp3) d3 (.slice au3 d3.unread.length cu3) (.slice af3 d3.faults.length cf3))).get 0 rfl); (exact rfl); (exact info_dv); simp only [Act.put, List.setIfInBounds_toArray, List.set_cons_zero, List.set_cons_succ]))
    refine (HE.out.1.2.2.2.2 ▸ read_any 0 _ HDv3.out (((HS12.out).row 0 rfl (dvCells (.slice ap3 d3.pages.length cp3) d3 (.slice au3 d3.unread.length cu3) (.slice af3 d3.faults.length cf3))).reads 3 rfl) HE.out.2.2.2.2.goodDv).mono ?_
    rintro e w63 ⟨rfl, hb⟩
    have HS13 : Hid (Hp w [.ob B1 27 (dvCells (.slice ap3 d3.pages.length cp3) d3 (.slice au3 d3.unread.length cu3) (.slice af3 d3.faults.length cf3)), .rd R1, .rd R2, .rd R3] w63) := ((HS12.out).row 0 rfl (dvCells (.slice ap3 d3.pages.length cp3) d3 (.slice au3 d3.unread.length cu3) (.slice af3 d3.faults.length cf3))).calls hb
    clear hb
    clear HS12
    go_wp2_with fail
    go_ret
    exact ⟨rfl, HS13.out.old⟩
end Go.Proofs.Ytlmbnofkmmehoaa
