/- texts of a claim, one after the other: the reference's Valid of a lock table, parts of a list of grants read; what is read, put together, the reference's settle, the reference's Mode, Waiting, place and Same, what reads, its spare cut off, is appended to: the whole is new, the reference's Request, the program's small functions on grants: comparing, the order, conflicts, validity, what finds grants (locks), the program's order of grants (locks), the program's order, conflicts, validity, and what finds grants (locks) -/
import Derived.Test.YtooaldglgkjjgaaWa1
import Derived.Deep.CutBlock
import Derived.ArgAppend
import Derived.Shelf.Abstract
/- the reference's Valid of a lock table -/
namespace Go.Proofs.Ytooaldglgkjjgaa
open Go.RowKit
set_option maxRecDepth 20000
set_option linter.unusedSimpArgs false
set_option linter.unusedVariables false

set_option maxHeartbeats 8000000 in
theorem rlkvalid_any {h v : Value} {t : Tb} {R : List Rng} (w : World) (ht : TbRd h v t R) (hR : RdIn w R) (hg : GoodTb t) :
    Calls Try.prog 25 #[.agg (tbCells h v).toArray] w fun e w' => e = .returned (.bool (tbOkB t)) ∧ Below w.heap.size w w' := by
  have HMd : Hid (∀ W, Below w.heap.size w W → ∀ tx k, GoodLk k → Calls Try.prog 51 #[.agg (tbCells h v).toArray, .int .i64 tx, .agg (lkCells k).toArray] W fun e w' => e = .returned (.int .i64 (modeR t.held tx k.page k.slot)) ∧ Below W.heap.size W w') := fun W hb tx k hk => rmode_any tx k W ht (hR.below hb) hg hk
  obtain ⟨a, cap, rfl, hnc, hcm, hg0⟩ := SlRd.open ht.1 hR
  obtain ⟨a2, cap2, rfl, hnc2, hcm2, hg2⟩ := SlRd.open ht.2 hR
  have HGe := Lib.hid hg.held
  have HGw := Lib.hid hg.wait
  have HN := Lib.hid hg.few
  have HNo : Hid ((1024 : Int) < (t.held.length : Int) + (t.wait.length : Int) → tbOkB t = false) := fun h => no_len h
  have HNg : Hid (∀ i x, t.held[i]? = some x → grOkB x = false → tbOkB t = false) := fun i x h1 h2 => no_grant h1 h2
  have HNl : Hid (∀ i p x y, t.held[i]? = some x → i = p + 1 → t.held[p]? = some y → ltB y x = false → tbOkB t = false) := fun i p x y h1 h2 h3 h4 => no_less h1 h2 h3 h4
  have HNc : Hid (∀ i p x y, t.held[i]? = some x → p < i → t.held[p]? = some y → confB y x = true → tbOkB t = false) := fun i p x y h1 h2 h3 h4 => no_conf h1 h2 h3 h4
  have HWg : Hid (∀ i x, t.wait[i]? = some x → grOkB x = false → tbOkB t = false) := fun i x h1 h2 => no_wgrant h1 h2
  have HWm : Hid (∀ i (x : Gr), t.wait[i]? = some x → x.mode ≤ modeR t.held x.tx x.page x.slot → tbOkB t = false) := fun i x h1 h2 => no_wmode h1 h2
  have HWt : Hid (∀ i p (x y : Gr), t.wait[i]? = some x → p < i → t.wait[p]? = some y → y.tx = x.tx → tbOkB t = false) := fun i p x y h1 h2 h3 h4 => no_wtwo h1 h2 h3 h4
  have HOk : Hid ((t.held.length : Int) + (t.wait.length : Int) ≤ 1024 → HeldOk t.held → WaitOk t.held t.wait → tbOkB t = true) := fun h1 h2 h3 => tbOkB_iff.2 ⟨by omega, h2, h3⟩
  clear ht hR hg
  generalize tbOkB t = ok at *
  generalize t.held = l at *
  generalize t.wait = m at *
  have h1 := (Hp.start w).put 25 (tbCells (.slice a l.length cap) (.slice a2 m.length cap2))
  simp only [List.nil_append] at h1
  have HS0 : Hid (Hp w [.ob w.heap.size 25 (tbCells (.slice a l.length cap) (.slice a2 m.length cap2))] (w.alloc (.cells (tbCells (.slice a l.length cap) (.slice a2 m.length cap2)).toArray 25))) := h1
  clear h1
  obtain ⟨fsHUG, huHUG⟩ := under_gr
  have HUG := Lib.hid huHUG
  clear huHUG
  obtain ⟨fsHUK, huHUK⟩ := under_lk
  have HUK := Lib.hid huHUK
  clear huHUK
  obtain ⟨fsHUT, huHUT⟩ := under_tb
  have HUT := Lib.hid huHUT
  clear huHUT
  have hnm : (l.length : Int) ≤ 100000 ∧ (m.length : Int) ≤ 100000 := by have := HN.out; omega
  obtain ⟨hn1, hm1⟩ := hnm
  have hn0 : (0 : Int) ≤ (l.length : Int) := by omega
  have hm0 : (0 : Int) ≤ (m.length : Int) := by omega
  have hsum : IntKind.i64.wrap ((l.length : Int) + (m.length : Int)) = (l.length : Int) + (m.length : Int) := IntWalk.i64_in _ (by omega)
  go_enter Try.func25, Try.ntmps25
  go_upto_region 1 with (fail)
  generalize (w.alloc (.cells (tbCells (.slice a l.length cap) (.slice a2 m.length cap2)).toArray 25)) = w1 at *
  have b0 : w1.cell? ⟨w.heap.size, 0, none⟩ = some (.slice a l.length cap) := HS0.out.at 0 rfl 0 rfl
  have b1 : w1.cell? ⟨w.heap.size, 1, none⟩ = some (.slice a2 m.length cap2) := HS0.out.at 0 rfl 1 rfl
  by_cases hl : 1024 < (l.length : Int) + (m.length : Int)
  · have HX := Lib.hid (HNo.out hl)
    have dl : decide (1024 < (l.length : Int) + (m.length : Int)) = true := decide_eq_true hl
    clear hl
    go_wp2_with fail
    go_ret
    exact ⟨by rw [HX.out]; rfl, HS0.out.old⟩
  have HL : Hid ((l.length : Int) + (m.length : Int) ≤ 1024) := Lib.hid (by omega)
  have dl : decide (1024 < (l.length : Int) + (m.length : Int)) = false := decide_eq_false hl
  clear hl
  go_wp2_with fail
  clear b0 b1 dl
  go_loopw [3] (fun iv wr => ∃ i : Nat, i ≤ l.length ∧ iv = .int .i64 i ∧ HeldOk (l.take i) ∧ Hp w [.ob w.heap.size 25 (tbCells (.slice a l.length cap) (.slice a2 m.length cap2))] wr) (fun iv _ => l.length - (intOf iv).toNat)
  case atStart => exact ⟨0, by omega, rfl, heldOk_nil, HS0.out⟩
  case round =>
    clear HS0
    obtain ⟨i, hi, rfl, hh, hs⟩ := hrel
    have HY := Lib.hid hs
    have HH := Lib.hid hh
    have b0 : wr.cell? ⟨w.heap.size, 0, none⟩ = some (.slice a l.length cap) := hs.at 0 rfl 0 rfl
    clear hs hh
    by_cases hlt : i < l.length
    · obtain ⟨g, off, rfl, hr⟩ := hg0.out (by omega)
      have HRg := Lib.hid hr
      obtain ⟨x, hx⟩ : ∃ x, l[i]? = some x := ⟨_, List.getElem?_eq_getElem hlt⟩
      have HXi := Lib.hid hx
      have hgx := HGe.out x (List.mem_of_getElem? hx)
      have HGx := Lib.hid hgx
      have HGr : Hid (∀ W, Calls Try.prog 49 #[.agg (grCells x).toArray] W fun e w' => e = .returned (.bool (grOkB x)) ∧ Below W.heap.size W w') := fun W => rgrant_any x W
      have HOx := Lib.hid (@grOkB_iff x)
      have hNx := HNg.out i x hx
      have hii : (i : Int) < (l.length : Int) := by omega
      have hi0 : (0 : Int) ≤ (i : Int) := by omega
      have HLt := Lib.hid hlt
      clear hr hgx hi hx
      generalize grOkB x = gb at *
      cases gb
      case false =>
        have HX := Lib.hid (hNx rfl)
        clear hNx HOx
        go_upto_region 6 with (fail)
        refine wp_region_held_drew (S := fun w' => w'.rangeAt w.heap.size 0 (tbCells (.slice (some ⟨g, off, none⟩) l.length cap) (.slice a2 m.length cap2)) ∧ w'.rangeAt g (off + i * 4) (grCells x)) (by kernel_rfl) (⟨(fun j v hv => by rw [Nat.zero_add]; exact ((HY.out).drew).at 0 rfl j hv), (elem_rng (HRg.out _ ((HY.out).drew).old) HXi.out)⟩) (fun hHeld => ?_)
        refine wpAnyH_take (i := 0) (oi := { dst := some 23, op := Op.fieldAddr 25 (Operand.tmp 1) 0, type := 0, pos := "ref.go:43", after := #[], guard := none }) (v := ?q1v) rfl (by kernel_rfl) (by kernel_rfl) (by kernel_rfl) (fun _ _ _ h => h) (Or.inl ⟨by rfl, ?q1h⟩) hHeld ?q1r
        case q1h => (intro wq hSw; clear hSw; go_simp; try with_reducible rfl)
        try simp only [Act.put, List.setIfInBounds_toArray, List.set_cons_zero, List.set_cons_succ]
        refine wpAnyH_take (i := 1) (oi := { dst := some 24, op := Op.load 23 (Operand.tmp 23), type := 23, pos := "ref.go:43", after := #[{ on := 0, ground := Ground.data }], guard := none }) (v := .slice (some ⟨g, off, none⟩) l.length cap) rfl (by kernel_rfl) (by kernel_rfl) (by kernel_rfl) (fun _ _ _ h => h) (Or.inl ⟨by rfl, ?q2h⟩) hHeld ?q2r
        case q2h => (intro wq hSw; have lq := (hSw.1) 0 (.slice (some ⟨g, off, none⟩) l.length cap) rfl; simp only [Nat.zero_add] at lq; clear hSw; go_simp; try with_reducible rfl)
        try simp only [Act.put, List.setIfInBounds_toArray, List.set_cons_zero, List.set_cons_succ]
        refine wpAnyH_take (i := 2) (oi := { dst := some 25, op := Op.move (Operand.tmp 3), type := 3, pos := "ref.go:43", after := #[], guard := none }) (v := ?q3v) rfl (by kernel_rfl) (by kernel_rfl) (by kernel_rfl) (fun _ _ _ h => h) (Or.inl ⟨by rfl, ?q3h⟩) hHeld ?q3r
        case q3h => (intro wq hSw; clear hSw; go_simp; try with_reducible rfl)
        try simp only [Act.put, List.setIfInBounds_toArray, List.set_cons_zero, List.set_cons_succ]
        refine wpAnyH_take (i := 3) (oi := { dst := some 26, op := Op.indexAddr 23 (Operand.tmp 24) (Operand.tmp 25), type := 0, pos := "ref.go:43", after := #[{ on := 1, ground := Ground.data }, { on := 2, ground := Ground.data }], guard := none }) (v := ?q4v) rfl (by kernel_rfl) (by kernel_rfl) (by kernel_rfl) (fun _ _ _ h => h) (Or.inl ⟨by rfl, ?q4h⟩) hHeld ?q4r
        case q4h => (intro wq hSw; clear hSw; go_simp; try with_reducible rfl)
        try simp only [Act.put, List.setIfInBounds_toArray, List.set_cons_zero, List.set_cons_succ]
        refine wpAnyH_take (i := 4) (oi := { dst := some 27, op := Op.load 29 (Operand.tmp 26), type := 29, pos := "ref.go:43", after := #[{ on := 3, ground := Ground.data }], guard := none }) rfl (by kernel_rfl) (by kernel_rfl) (by kernel_rfl) (fun _ _ _ h => h) (yieldsIf_load_mid (by rfl) 29 (.tmp 26) rfl g (off + i * 4) rfl (grCells x) _ (fun _ h => h.2) HUG.out rfl (info_gr)) hHeld ?_
        try simp only [Act.put, List.setIfInBounds_toArray, List.set_cons_zero, List.set_cons_succ]
        refine wpAnyH_ready (rs := [5]) (by kernel_rfl) (by simp) ?_
        refine AllReadyH.cons (o := { dst := some 28, op := Op.call { callee := Callee.value (Operand.func 49), args := #[Operand.tmp 27], argTypes := #[29] }, type := 4, pos := "ref.go:43", after := #[{ on := 4, ground := Ground.data }], guard := none }) rfl (fun K hK => ?_) (AllReadyH.nil)
        go_simp
        go_wp2_with (go_at_call 49; refine (HGr.out _).mono ?_; rintro e w21 ⟨rfl, hb⟩)
        have HS21 : Hid (Hp w [.ob (w.heap.size) 25 (tbCells (.slice (some ⟨g, off, none⟩) l.length cap) (.slice a2 m.length cap2))] w21) := ((HY.out).drew).calls hb
        refine hK.out _ _ (⟨(fun j v hv => by rw [Nat.zero_add]; exact (HS21.out).at 0 rfl j hv), (elem_rng (HRg.out _ (HS21.out).old) HXi.out)⟩) (fun hHeld => ?_)
        clear hK K hb
        try simp only [Act.put, List.setIfInBounds_toArray, List.set_cons_zero, List.set_cons_succ]
        refine wpAnyH_take (i := 6) (oi := { dst := some 29, op := Op.unOp UnOp.not 4 (Operand.tmp 28), type := 4, pos := "ref.go:43", after := #[{ on := 5, ground := Ground.data }], guard := none }) (v := ?q6v) rfl (by kernel_rfl) (by kernel_rfl) (by kernel_rfl) (fun _ _ _ h => h) (Or.inl ⟨by rfl, ?q6h⟩) hHeld ?q6r
        case q6h => (intro wq hSw; clear hSw; go_simp; try with_reducible rfl)
        try simp only [Act.put, List.setIfInBounds_toArray, List.set_cons_zero, List.set_cons_succ]
        refine wpAnyH_take (i := 7) (oi := { dst := some 30, op := Op.move (Operand.tmp 29), type := 4, pos := "ref.go:43", after := #[{ on := 6, ground := Ground.data }, { on := 5, ground := Ground.chain }], guard := none }) (v := ?q7v) rfl (by kernel_rfl) (by kernel_rfl) (by kernel_rfl) (fun _ _ _ h => h) (Or.inl ⟨by rfl, ?q7h⟩) hHeld ?q7r
        case q7h => (intro wq hSw; clear hSw; go_simp; try with_reducible rfl)
        try simp only [Act.put, List.setIfInBounds_toArray, List.set_cons_zero, List.set_cons_succ]
        refine wpAnyH_take (i := 8) (oi := { dst := some 31, op := Op.move (Operand.tmp 3), type := 3, pos := "ref.go:43", after := #[{ on := 7, ground := Ground.guard }], guard := some (7, false) }) (v := undef) rfl (by kernel_rfl) (by kernel_rfl) (by kernel_rfl) (fun _ _ _ h => h) (Or.inr ⟨by rfl, rfl⟩) hHeld ?_
        try simp only [Act.put, List.setIfInBounds_toArray, List.set_cons_zero, List.set_cons_succ]
        refine wpAnyH_take (i := 9) (oi := { dst := some 32, op := Op.binOp BinOp.gtr 3 (Operand.tmp 31) (Operand.const (Value.int IntKind.i64 0)) 3, type := 4, pos := "ref.go:43", after := #[{ on := 8, ground := Ground.data }, { on := 7, ground := Ground.guard }], guard := some (7, false) }) (v := undef) rfl (by kernel_rfl) (by kernel_rfl) (by kernel_rfl) (fun _ _ _ h => h) (Or.inr ⟨by rfl, rfl⟩) hHeld ?_
        try simp only [Act.put, List.setIfInBounds_toArray, List.set_cons_zero, List.set_cons_succ]
        refine wpAnyH_take (i := 10) (oi := { dst := some 33, op := Op.move (Operand.tmp 32), type := 4, pos := "ref.go:43", after := #[{ on := 9, ground := Ground.data }, { on := 7, ground := Ground.chain }, { on := 7, ground := Ground.guard }], guard := some (7, false) }) (v := undef) rfl (by kernel_rfl) (by kernel_rfl) (by kernel_rfl) (fun _ _ _ h => h) (Or.inr ⟨by rfl, rfl⟩) hHeld ?_
        try simp only [Act.put, List.setIfInBounds_toArray, List.set_cons_zero, List.set_cons_succ]
        refine wpAnyH_take (i := 11) (oi := { dst := some 34, op := Op.fieldAddr 25 (Operand.tmp 1) 0, type := 0, pos := "ref.go:43", after := #[{ on := 10, ground := Ground.guard }], guard := some (10, true) }) (v := undef) rfl (by kernel_rfl) (by kernel_rfl) (by kernel_rfl) (fun _ _ _ h => h) (Or.inr ⟨by rfl, rfl⟩) hHeld ?_
        try simp only [Act.put, List.setIfInBounds_toArray, List.set_cons_zero, List.set_cons_succ]
        refine wpAnyH_take (i := 12) (oi := { dst := some 35, op := Op.load 23 (Operand.tmp 34), type := 23, pos := "ref.go:43", after := #[{ on := 11, ground := Ground.data }, { on := 10, ground := Ground.guard }], guard := some (10, true) }) (v := undef) rfl (by kernel_rfl) (by kernel_rfl) (by kernel_rfl) (fun _ _ _ h => h) (Or.inr ⟨by rfl, rfl⟩) hHeld ?_
        try simp only [Act.put, List.setIfInBounds_toArray, List.set_cons_zero, List.set_cons_succ]
        refine wpAnyH_take (i := 13) (oi := { dst := some 36, op := Op.move (Operand.tmp 3), type := 3, pos := "ref.go:43", after := #[{ on := 10, ground := Ground.guard }], guard := some (10, true) }) (v := undef) rfl (by kernel_rfl) (by kernel_rfl) (by kernel_rfl) (fun _ _ _ h => h) (Or.inr ⟨by rfl, rfl⟩) hHeld ?_
        try simp only [Act.put, List.setIfInBounds_toArray, List.set_cons_zero, List.set_cons_succ]
        refine wpAnyH_take (i := 14) (oi := { dst := some 37, op := Op.binOp BinOp.sub 3 (Operand.tmp 36) (Operand.const (Value.int IntKind.i64 1)) 3, type := 3, pos := "ref.go:43", after := #[{ on := 13, ground := Ground.data }, { on := 10, ground := Ground.guard }], guard := some (10, true) }) (v := undef) rfl (by kernel_rfl) (by kernel_rfl) (by kernel_rfl) (fun _ _ _ h => h) (Or.inr ⟨by rfl, rfl⟩) hHeld ?_
        try simp only [Act.put, List.setIfInBounds_toArray, List.set_cons_zero, List.set_cons_succ]
        refine wpAnyH_take (i := 15) (oi := { dst := some 38, op := Op.indexAddr 23 (Operand.tmp 35) (Operand.tmp 37), type := 0, pos := "ref.go:43", after := #[{ on := 12, ground := Ground.data }, { on := 14, ground := Ground.data }, { on := 10, ground := Ground.guard }], guard := some (10, true) }) (v := undef) rfl (by kernel_rfl) (by kernel_rfl) (by kernel_rfl) (fun _ _ _ h => h) (Or.inr ⟨by rfl, rfl⟩) hHeld ?_
        try simp only [Act.put, List.setIfInBounds_toArray, List.set_cons_zero, List.set_cons_succ]
        refine wpAnyH_take (i := 16) (oi := { dst := some 39, op := Op.load 29 (Operand.tmp 38), type := 29, pos := "ref.go:43", after := #[{ on := 15, ground := Ground.data }, { on := 10, ground := Ground.guard }], guard := some (10, true) }) (v := undef) rfl (by kernel_rfl) (by kernel_rfl) (by kernel_rfl) (fun _ _ _ h => h) (Or.inr ⟨by rfl, rfl⟩) hHeld ?_
        try simp only [Act.put, List.setIfInBounds_toArray, List.set_cons_zero, List.set_cons_succ]
        refine wpAnyH_take (i := 17) (oi := { dst := some 40, op := Op.fieldAddr 25 (Operand.tmp 1) 0, type := 0, pos := "ref.go:43", after := #[{ on := 10, ground := Ground.guard }], guard := some (10, true) }) (v := undef) rfl (by kernel_rfl) (by kernel_rfl) (by kernel_rfl) (fun _ _ _ h => h) (Or.inr ⟨by rfl, rfl⟩) hHeld ?_
        try simp only [Act.put, List.setIfInBounds_toArray, List.set_cons_zero, List.set_cons_succ]
        refine wpAnyH_take (i := 18) (oi := { dst := some 41, op := Op.load 23 (Operand.tmp 40), type := 23, pos := "ref.go:43", after := #[{ on := 17, ground := Ground.data }, { on := 10, ground := Ground.guard }], guard := some (10, true) }) (v := undef) rfl (by kernel_rfl) (by kernel_rfl) (by kernel_rfl) (fun _ _ _ h => h) (Or.inr ⟨by rfl, rfl⟩) hHeld ?_
        try simp only [Act.put, List.setIfInBounds_toArray, List.set_cons_zero, List.set_cons_succ]
        refine wpAnyH_take (i := 19) (oi := { dst := some 42, op := Op.move (Operand.tmp 3), type := 3, pos := "ref.go:43", after := #[{ on := 10, ground := Ground.guard }], guard := some (10, true) }) (v := undef) rfl (by kernel_rfl) (by kernel_rfl) (by kernel_rfl) (fun _ _ _ h => h) (Or.inr ⟨by rfl, rfl⟩) hHeld ?_
        try simp only [Act.put, List.setIfInBounds_toArray, List.set_cons_zero, List.set_cons_succ]
        refine wpAnyH_take (i := 20) (oi := { dst := some 43, op := Op.indexAddr 23 (Operand.tmp 41) (Operand.tmp 42), type := 0, pos := "ref.go:43", after := #[{ on := 18, ground := Ground.data }, { on := 19, ground := Ground.data }, { on := 10, ground := Ground.guard }], guard := some (10, true) }) (v := undef) rfl (by kernel_rfl) (by kernel_rfl) (by kernel_rfl) (fun _ _ _ h => h) (Or.inr ⟨by rfl, rfl⟩) hHeld ?_
        try simp only [Act.put, List.setIfInBounds_toArray, List.set_cons_zero, List.set_cons_succ]
        refine wpAnyH_take (i := 21) (oi := { dst := some 44, op := Op.load 29 (Operand.tmp 43), type := 29, pos := "ref.go:43", after := #[{ on := 20, ground := Ground.data }, { on := 10, ground := Ground.guard }], guard := some (10, true) }) (v := undef) rfl (by kernel_rfl) (by kernel_rfl) (by kernel_rfl) (fun _ _ _ h => h) (Or.inr ⟨by rfl, rfl⟩) hHeld ?_
        try simp only [Act.put, List.setIfInBounds_toArray, List.set_cons_zero, List.set_cons_succ]
        refine wpAnyH_ready (rs := [22]) (by kernel_rfl) (by simp) ?_
        refine AllReadyH.cons (o := { dst := some 45, op := Op.call { callee := Callee.value (Operand.func 50), args := #[Operand.tmp 39, Operand.tmp 44], argTypes := #[29, 29] }, type := 4, pos := "ref.go:43", after := #[{ on := 16, ground := Ground.data }, { on := 21, ground := Ground.data }, { on := 10, ground := Ground.chain }, { on := 10, ground := Ground.guard }], guard := some (10, true) }) rfl (fun K hK => ?_) (AllReadyH.nil)
        rw [if_neg (by exact Bool.false_ne_true)]
        have HS22 : Hid (Hp w [.ob (w.heap.size) 25 (tbCells (.slice (some ⟨g, off, none⟩) l.length cap) (.slice a2 m.length cap2))] w21) := HS21.out
        refine hK.out _ _ (⟨(fun j v hv => by rw [Nat.zero_add]; exact (HS22.out).at 0 rfl j hv), (elem_rng (HRg.out _ (HS22.out).old) HXi.out)⟩) (fun hHeld => ?_)
        clear hK K
        try simp only [Act.put, List.setIfInBounds_toArray, List.set_cons_zero, List.set_cons_succ]
        refine wpAnyH_take (i := 23) (oi := { dst := some 46, op := Op.unOp UnOp.not 4 (Operand.tmp 45), type := 4, pos := "ref.go:43", after := #[{ on := 22, ground := Ground.data }, { on := 10, ground := Ground.guard }], guard := some (10, true) }) (v := undef) rfl (by kernel_rfl) (by kernel_rfl) (by kernel_rfl) (fun _ _ _ h => h) (Or.inr ⟨by rfl, rfl⟩) hHeld ?_
        try simp only [Act.put, List.setIfInBounds_toArray, List.set_cons_zero, List.set_cons_succ]
        refine wpAnyH_take (i := 24) (oi := { dst := some 47, op := Op.pick (Operand.tmp 33) (Operand.tmp 46) (Operand.const (Value.bool false)), type := 4, pos := "ref.go:43", after := #[{ on := 10, ground := Ground.data }, { on := 23, ground := Ground.data }, { on := 7, ground := Ground.guard }], guard := some (7, false) }) (v := undef) rfl (by kernel_rfl) (by kernel_rfl) (by kernel_rfl) (fun _ _ _ h => h) (Or.inr ⟨by rfl, rfl⟩) hHeld ?_
        try simp only [Act.put, List.setIfInBounds_toArray, List.set_cons_zero, List.set_cons_succ]
        refine wpAnyH_take (i := 25) (oi := { dst := some 48, op := Op.pick (Operand.tmp 30) (Operand.const (Value.bool true)) (Operand.tmp 47), type := 4, pos := "ref.go:43", after := #[{ on := 7, ground := Ground.data }, { on := 24, ground := Ground.data }], guard := none }) (v := ?q24v) rfl (by kernel_rfl) (by kernel_rfl) (by kernel_rfl) (fun _ _ _ h => h) (Or.inl ⟨by rfl, ?q24h⟩) hHeld ?q24r
        case q24h => (intro wq hSw; clear hSw; go_simp; try with_reducible rfl)
        try simp only [Act.put, List.setIfInBounds_toArray, List.set_cons_zero, List.set_cons_succ]
        refine wpAnyH_done (by kernel_rfl) ?_ _
        go_wp2_with fail
        go_ret
        exact ⟨by rw [HX.out]; rfl, HS22.out.old⟩
      case true =>
        have HOk1 := Lib.hid (HOx.out.1 rfl)
        clear hNx HOx
        by_cases hi1 : (0 : Int) < (i : Int)
        · obtain ⟨p, hip⟩ : ∃ p, i = p + 1 := ⟨i - 1, by omega⟩
          have HIp := Lib.hid hip
          have hpw : IntKind.i64.wrap ((i : Int) - 1) = (p : Int) := by rw [show (i : Int) - 1 = (p : Int) by omega]; exact IntWalk.i64_in _ (by omega)
          have hpi : (p : Int) < (l.length : Int) := by omega
          have hp0 : (0 : Int) ≤ (p : Int) := by omega
          obtain ⟨y, hy⟩ : ∃ y, l[p]? = some y := ⟨_, List.getElem?_eq_getElem (by omega)⟩
          have HYp := Lib.hid hy
          have HLs : Hid (∀ W, Calls Try.prog 50 #[.agg (grCells y).toArray, .agg (grCells x).toArray] W fun e w' => e = .returned (.bool (ltB y x)) ∧ Below W.heap.size W w') := fun W => rless_any y x W
          have HLy := Lib.hid (@ltB_iff y x)
          have hNx := HNl.out i p x y HXi.out hip hy
          have dp : decide ((0 : Int) < (i : Int)) = true := decide_eq_true hi1
          have hi2 : 0 < i := by omega
          clear hip hy hi1
          generalize ltB y x = lb at *
          cases lb
          case false =>
            have HX := Lib.hid (hNx rfl)
            clear hNx HLy
            go_upto_region 6 with (fail)
            refine wp_region_held_drew (S := fun w' => w'.rangeAt w.heap.size 0 (tbCells (.slice (some ⟨g, off, none⟩) l.length cap) (.slice a2 m.length cap2)) ∧ w'.rangeAt g (off + i * 4) (grCells x) ∧ w'.rangeAt g (off + p * 4) (grCells y)) (by kernel_rfl) (⟨(fun j v hv => by rw [Nat.zero_add]; exact ((HY.out).drew).at 0 rfl j hv), (elem_rng (HRg.out _ ((HY.out).drew).old) HXi.out), (elem_rng (HRg.out _ ((HY.out).drew).old) HYp.out)⟩) (fun hHeld => ?_)
            refine wpAnyH_take (i := 0) (oi := { dst := some 23, op := Op.fieldAddr 25 (Operand.tmp 1) 0, type := 0, pos := "ref.go:43", after := #[], guard := none }) (v := ?q101v) rfl (by kernel_rfl) (by kernel_rfl) (by kernel_rfl) (fun _ _ _ h => h) (Or.inl ⟨by rfl, ?q101h⟩) hHeld ?q101r
            case q101h => (intro wq hSw; clear hSw; go_simp; try with_reducible rfl)
            try simp only [Act.put, List.setIfInBounds_toArray, List.set_cons_zero, List.set_cons_succ]
            refine wpAnyH_take (i := 1) (oi := { dst := some 24, op := Op.load 23 (Operand.tmp 23), type := 23, pos := "ref.go:43", after := #[{ on := 0, ground := Ground.data }], guard := none }) (v := .slice (some ⟨g, off, none⟩) l.length cap) rfl (by kernel_rfl) (by kernel_rfl) (by kernel_rfl) (fun _ _ _ h => h) (Or.inl ⟨by rfl, ?q102h⟩) hHeld ?q102r
            case q102h => (intro wq hSw; have lq := (hSw.1) 0 (.slice (some ⟨g, off, none⟩) l.length cap) rfl; simp only [Nat.zero_add] at lq; clear hSw; go_simp; try with_reducible rfl)
            try simp only [Act.put, List.setIfInBounds_toArray, List.set_cons_zero, List.set_cons_succ]
            refine wpAnyH_take (i := 2) (oi := { dst := some 25, op := Op.move (Operand.tmp 3), type := 3, pos := "ref.go:43", after := #[], guard := none }) (v := ?q103v) rfl (by kernel_rfl) (by kernel_rfl) (by kernel_rfl) (fun _ _ _ h => h) (Or.inl ⟨by rfl, ?q103h⟩) hHeld ?q103r
            case q103h => (intro wq hSw; clear hSw; go_simp; try with_reducible rfl)
            try simp only [Act.put, List.setIfInBounds_toArray, List.set_cons_zero, List.set_cons_succ]
            refine wpAnyH_take (i := 3) (oi := { dst := some 26, op := Op.indexAddr 23 (Operand.tmp 24) (Operand.tmp 25), type := 0, pos := "ref.go:43", after := #[{ on := 1, ground := Ground.data }, { on := 2, ground := Ground.data }], guard := none }) (v := ?q104v) rfl (by kernel_rfl) (by kernel_rfl) (by kernel_rfl) (fun _ _ _ h => h) (Or.inl ⟨by rfl, ?q104h⟩) hHeld ?q104r
            case q104h => (intro wq hSw; clear hSw; go_simp; try with_reducible rfl)
            try simp only [Act.put, List.setIfInBounds_toArray, List.set_cons_zero, List.set_cons_succ]
            refine wpAnyH_take (i := 4) (oi := { dst := some 27, op := Op.load 29 (Operand.tmp 26), type := 29, pos := "ref.go:43", after := #[{ on := 3, ground := Ground.data }], guard := none }) rfl (by kernel_rfl) (by kernel_rfl) (by kernel_rfl) (fun _ _ _ h => h) (yieldsIf_load_mid (by rfl) 29 (.tmp 26) rfl g (off + i * 4) rfl (grCells x) _ (fun _ h => h.2.1) HUG.out rfl (info_gr)) hHeld ?_
            try simp only [Act.put, List.setIfInBounds_toArray, List.set_cons_zero, List.set_cons_succ]
            refine wpAnyH_ready (rs := [5]) (by kernel_rfl) (by simp) ?_
            refine AllReadyH.cons (o := { dst := some 28, op := Op.call { callee := Callee.value (Operand.func 49), args := #[Operand.tmp 27], argTypes := #[29] }, type := 4, pos := "ref.go:43", after := #[{ on := 4, ground := Ground.data }], guard := none }) rfl (fun K hK => ?_) (AllReadyH.nil)
            go_simp
            go_wp2_with (go_at_call 49; refine (HGr.out _).mono ?_; rintro e w21 ⟨rfl, hb⟩)
            have HS21 : Hid (Hp w [.ob (w.heap.size) 25 (tbCells (.slice (some ⟨g, off, none⟩) l.length cap) (.slice a2 m.length cap2))] w21) := ((HY.out).drew).calls hb
            refine hK.out _ _ (⟨(fun j v hv => by rw [Nat.zero_add]; exact (HS21.out).at 0 rfl j hv), (elem_rng (HRg.out _ (HS21.out).old) HXi.out), (elem_rng (HRg.out _ (HS21.out).old) HYp.out)⟩) (fun hHeld => ?_)
            clear hK K hb
            try simp only [Act.put, List.setIfInBounds_toArray, List.set_cons_zero, List.set_cons_succ]
            refine wpAnyH_take (i := 6) (oi := { dst := some 29, op := Op.unOp UnOp.not 4 (Operand.tmp 28), type := 4, pos := "ref.go:43", after := #[{ on := 5, ground := Ground.data }], guard := none }) (v := ?q106v) rfl (by kernel_rfl) (by kernel_rfl) (by kernel_rfl) (fun _ _ _ h => h) (Or.inl ⟨by rfl, ?q106h⟩) hHeld ?q106r
            case q106h => (intro wq hSw; clear hSw; go_simp; try with_reducible rfl)
            try simp only [Act.put, List.setIfInBounds_toArray, List.set_cons_zero, List.set_cons_succ]
            refine wpAnyH_take (i := 7) (oi := { dst := some 30, op := Op.move (Operand.tmp 29), type := 4, pos := "ref.go:43", after := #[{ on := 6, ground := Ground.data }, { on := 5, ground := Ground.chain }], guard := none }) (v := ?q107v) rfl (by kernel_rfl) (by kernel_rfl) (by kernel_rfl) (fun _ _ _ h => h) (Or.inl ⟨by rfl, ?q107h⟩) hHeld ?q107r
            case q107h => (intro wq hSw; clear hSw; go_simp; try with_reducible rfl)
            try simp only [Act.put, List.setIfInBounds_toArray, List.set_cons_zero, List.set_cons_succ]
            refine wpAnyH_take (i := 8) (oi := { dst := some 31, op := Op.move (Operand.tmp 3), type := 3, pos := "ref.go:43", after := #[{ on := 7, ground := Ground.guard }], guard := some (7, false) }) (v := ?q108v) rfl (by kernel_rfl) (by kernel_rfl) (by kernel_rfl) (fun _ _ _ h => h) (Or.inl ⟨by rfl, ?q108h⟩) hHeld ?q108r
            case q108h => (intro wq hSw; clear hSw; go_simp; try with_reducible rfl)
            try simp only [Act.put, List.setIfInBounds_toArray, List.set_cons_zero, List.set_cons_succ]
            refine wpAnyH_take (i := 9) (oi := { dst := some 32, op := Op.binOp BinOp.gtr 3 (Operand.tmp 31) (Operand.const (Value.int IntKind.i64 0)) 3, type := 4, pos := "ref.go:43", after := #[{ on := 8, ground := Ground.data }, { on := 7, ground := Ground.guard }], guard := some (7, false) }) (v := .bool true) rfl (by kernel_rfl) (by kernel_rfl) (by kernel_rfl) (fun _ _ _ h => h) (Or.inl ⟨by rfl, ?q109h⟩) hHeld ?q109r
            case q109h => (intro wq hSw; clear hSw; go_simp; try with_reducible rfl)
            try simp only [Act.put, List.setIfInBounds_toArray, List.set_cons_zero, List.set_cons_succ]
            refine wpAnyH_take (i := 10) (oi := { dst := some 33, op := Op.move (Operand.tmp 32), type := 4, pos := "ref.go:43", after := #[{ on := 9, ground := Ground.data }, { on := 7, ground := Ground.chain }, { on := 7, ground := Ground.guard }], guard := some (7, false) }) (v := ?q110v) rfl (by kernel_rfl) (by kernel_rfl) (by kernel_rfl) (fun _ _ _ h => h) (Or.inl ⟨by rfl, ?q110h⟩) hHeld ?q110r
            case q110h => (intro wq hSw; clear hSw; go_simp; try with_reducible rfl)
            try simp only [Act.put, List.setIfInBounds_toArray, List.set_cons_zero, List.set_cons_succ]
            refine wpAnyH_take (i := 11) (oi := { dst := some 34, op := Op.fieldAddr 25 (Operand.tmp 1) 0, type := 0, pos := "ref.go:43", after := #[{ on := 10, ground := Ground.guard }], guard := some (10, true) }) (v := ?q111v) rfl (by kernel_rfl) (by kernel_rfl) (by kernel_rfl) (fun _ _ _ h => h) (Or.inl ⟨by rfl, ?q111h⟩) hHeld ?q111r
            case q111h => (intro wq hSw; clear hSw; go_simp; try with_reducible rfl)
            try simp only [Act.put, List.setIfInBounds_toArray, List.set_cons_zero, List.set_cons_succ]
            refine wpAnyH_take (i := 12) (oi := { dst := some 35, op := Op.load 23 (Operand.tmp 34), type := 23, pos := "ref.go:43", after := #[{ on := 11, ground := Ground.data }, { on := 10, ground := Ground.guard }], guard := some (10, true) }) (v := .slice (some ⟨g, off, none⟩) l.length cap) rfl (by kernel_rfl) (by kernel_rfl) (by kernel_rfl) (fun _ _ _ h => h) (Or.inl ⟨by rfl, ?q112h⟩) hHeld ?q112r
            case q112h => (intro wq hSw; have lq := (hSw.1) 0 (.slice (some ⟨g, off, none⟩) l.length cap) rfl; simp only [Nat.zero_add] at lq; clear hSw; go_simp; try with_reducible rfl)
            try simp only [Act.put, List.setIfInBounds_toArray, List.set_cons_zero, List.set_cons_succ]
            refine wpAnyH_take (i := 13) (oi := { dst := some 36, op := Op.move (Operand.tmp 3), type := 3, pos := "ref.go:43", after := #[{ on := 10, ground := Ground.guard }], guard := some (10, true) }) (v := ?q113v) rfl (by kernel_rfl) (by kernel_rfl) (by kernel_rfl) (fun _ _ _ h => h) (Or.inl ⟨by rfl, ?q113h⟩) hHeld ?q113r
            case q113h => (intro wq hSw; clear hSw; go_simp; try with_reducible rfl)
            try simp only [Act.put, List.setIfInBounds_toArray, List.set_cons_zero, List.set_cons_succ]
            refine wpAnyH_take (i := 14) (oi := { dst := some 37, op := Op.binOp BinOp.sub 3 (Operand.tmp 36) (Operand.const (Value.int IntKind.i64 1)) 3, type := 3, pos := "ref.go:43", after := #[{ on := 13, ground := Ground.data }, { on := 10, ground := Ground.guard }], guard := some (10, true) }) (v := ?q114v) rfl (by kernel_rfl) (by kernel_rfl) (by kernel_rfl) (fun _ _ _ h => h) (Or.inl ⟨by rfl, ?q114h⟩) hHeld ?q114r
            case q114h => (intro wq hSw; clear hSw; go_simp; try with_reducible rfl)
            try simp only [Act.put, List.setIfInBounds_toArray, List.set_cons_zero, List.set_cons_succ]
            refine wpAnyH_take (i := 15) (oi := { dst := some 38, op := Op.indexAddr 23 (Operand.tmp 35) (Operand.tmp 37), type := 0, pos := "ref.go:43", after := #[{ on := 12, ground := Ground.data }, { on := 14, ground := Ground.data }, { on := 10, ground := Ground.guard }], guard := some (10, true) }) (v := ?q115v) rfl (by kernel_rfl) (by kernel_rfl) (by kernel_rfl) (fun _ _ _ h => h) (Or.inl ⟨by rfl, ?q115h⟩) hHeld ?q115r
            case q115h => (intro wq hSw; clear hSw; go_simp; try with_reducible rfl)
            try simp only [Act.put, List.setIfInBounds_toArray, List.set_cons_zero, List.set_cons_succ]
            refine wpAnyH_take (i := 16) (oi := { dst := some 39, op := Op.load 29 (Operand.tmp 38), type := 29, pos := "ref.go:43", after := #[{ on := 15, ground := Ground.data }, { on := 10, ground := Ground.guard }], guard := some (10, true) }) rfl (by kernel_rfl) (by kernel_rfl) (by kernel_rfl) (fun _ _ _ h => h) (yieldsIf_load_mid (by rfl) 29 (.tmp 38) rfl g (off + p * 4) rfl (grCells y) _ (fun _ h => h.2.2) HUG.out rfl (info_gr)) hHeld ?_
            try simp only [Act.put, List.setIfInBounds_toArray, List.set_cons_zero, List.set_cons_succ]
            refine wpAnyH_take (i := 17) (oi := { dst := some 40, op := Op.fieldAddr 25 (Operand.tmp 1) 0, type := 0, pos := "ref.go:43", after := #[{ on := 10, ground := Ground.guard }], guard := some (10, true) }) (v := ?q117v) rfl (by kernel_rfl) (by kernel_rfl) (by kernel_rfl) (fun _ _ _ h => h) (Or.inl ⟨by rfl, ?q117h⟩) hHeld ?q117r
            case q117h => (intro wq hSw; clear hSw; go_simp; try with_reducible rfl)
            try simp only [Act.put, List.setIfInBounds_toArray, List.set_cons_zero, List.set_cons_succ]
            refine wpAnyH_take (i := 18) (oi := { dst := some 41, op := Op.load 23 (Operand.tmp 40), type := 23, pos := "ref.go:43", after := #[{ on := 17, ground := Ground.data }, { on := 10, ground := Ground.guard }], guard := some (10, true) }) (v := .slice (some ⟨g, off, none⟩) l.length cap) rfl (by kernel_rfl) (by kernel_rfl) (by kernel_rfl) (fun _ _ _ h => h) (Or.inl ⟨by rfl, ?q118h⟩) hHeld ?q118r
            case q118h => (intro wq hSw; have lq := (hSw.1) 0 (.slice (some ⟨g, off, none⟩) l.length cap) rfl; simp only [Nat.zero_add] at lq; clear hSw; go_simp; try with_reducible rfl)
            try simp only [Act.put, List.setIfInBounds_toArray, List.set_cons_zero, List.set_cons_succ]
            refine wpAnyH_take (i := 19) (oi := { dst := some 42, op := Op.move (Operand.tmp 3), type := 3, pos := "ref.go:43", after := #[{ on := 10, ground := Ground.guard }], guard := some (10, true) }) (v := ?q119v) rfl (by kernel_rfl) (by kernel_rfl) (by kernel_rfl) (fun _ _ _ h => h) (Or.inl ⟨by rfl, ?q119h⟩) hHeld ?q119r
            case q119h => (intro wq hSw; clear hSw; go_simp; try with_reducible rfl)
            try simp only [Act.put, List.setIfInBounds_toArray, List.set_cons_zero, List.set_cons_succ]
            refine wpAnyH_take (i := 20) (oi := { dst := some 43, op := Op.indexAddr 23 (Operand.tmp 41) (Operand.tmp 42), type := 0, pos := "ref.go:43", after := #[{ on := 18, ground := Ground.data }, { on := 19, ground := Ground.data }, { on := 10, ground := Ground.guard }], guard := some (10, true) }) (v := ?q120v) rfl (by kernel_rfl) (by kernel_rfl) (by kernel_rfl) (fun _ _ _ h => h) (Or.inl ⟨by rfl, ?q120h⟩) hHeld ?q120r
            case q120h => (intro wq hSw; clear hSw; go_simp; try with_reducible rfl)
            try simp only [Act.put, List.setIfInBounds_toArray, List.set_cons_zero, List.set_cons_succ]
            refine wpAnyH_take (i := 21) (oi := { dst := some 44, op := Op.load 29 (Operand.tmp 43), type := 29, pos := "ref.go:43", after := #[{ on := 20, ground := Ground.data }, { on := 10, ground := Ground.guard }], guard := some (10, true) }) rfl (by kernel_rfl) (by kernel_rfl) (by kernel_rfl) (fun _ _ _ h => h) (yieldsIf_load_mid (by rfl) 29 (.tmp 43) rfl g (off + i * 4) rfl (grCells x) _ (fun _ h => h.2.1) HUG.out rfl (info_gr)) hHeld ?_
            try simp only [Act.put, List.setIfInBounds_toArray, List.set_cons_zero, List.set_cons_succ]
            refine wpAnyH_ready (rs := [22]) (by kernel_rfl) (by simp) ?_
            refine AllReadyH.cons (o := { dst := some 45, op := Op.call { callee := Callee.value (Operand.func 50), args := #[Operand.tmp 39, Operand.tmp 44], argTypes := #[29, 29] }, type := 4, pos := "ref.go:43", after := #[{ on := 16, ground := Ground.data }, { on := 21, ground := Ground.data }, { on := 10, ground := Ground.chain }, { on := 10, ground := Ground.guard }], guard := some (10, true) }) rfl (fun K hK => ?_) (AllReadyH.nil)
            go_simp
            go_wp2_with (go_at_call 50; refine (HLs.out _).mono ?_; rintro e w22 ⟨rfl, hb⟩)
            have HS22 : Hid (Hp w [.ob (w.heap.size) 25 (tbCells (.slice (some ⟨g, off, none⟩) l.length cap) (.slice a2 m.length cap2))] w22) := (HS21.out).calls hb
            refine hK.out _ _ (⟨(fun j v hv => by rw [Nat.zero_add]; exact (HS22.out).at 0 rfl j hv), (elem_rng (HRg.out _ (HS22.out).old) HXi.out), (elem_rng (HRg.out _ (HS22.out).old) HYp.out)⟩) (fun hHeld => ?_)
            clear hK K hb
            try simp only [Act.put, List.setIfInBounds_toArray, List.set_cons_zero, List.set_cons_succ]
            refine wpAnyH_take (i := 23) (oi := { dst := some 46, op := Op.unOp UnOp.not 4 (Operand.tmp 45), type := 4, pos := "ref.go:43", after := #[{ on := 22, ground := Ground.data }, { on := 10, ground := Ground.guard }], guard := some (10, true) }) (v := ?q122v) rfl (by kernel_rfl) (by kernel_rfl) (by kernel_rfl) (fun _ _ _ h => h) (Or.inl ⟨by rfl, ?q122h⟩) hHeld ?q122r
            case q122h => (intro wq hSw; clear hSw; go_simp; try with_reducible rfl)
            try simp only [Act.put, List.setIfInBounds_toArray, List.set_cons_zero, List.set_cons_succ]
            refine wpAnyH_take (i := 24) (oi := { dst := some 47, op := Op.pick (Operand.tmp 33) (Operand.tmp 46) (Operand.const (Value.bool false)), type := 4, pos := "ref.go:43", after := #[{ on := 10, ground := Ground.data }, { on := 23, ground := Ground.data }, { on := 7, ground := Ground.guard }], guard := some (7, false) }) (v := ?q123v) rfl (by kernel_rfl) (by kernel_rfl) (by kernel_rfl) (fun _ _ _ h => h) (Or.inl ⟨by rfl, ?q123h⟩) hHeld ?q123r
            case q123h => (intro wq hSw; clear hSw; go_simp; try with_reducible rfl)
            try simp only [Act.put, List.setIfInBounds_toArray, List.set_cons_zero, List.set_cons_succ]
            refine wpAnyH_take (i := 25) (oi := { dst := some 48, op := Op.pick (Operand.tmp 30) (Operand.const (Value.bool true)) (Operand.tmp 47), type := 4, pos := "ref.go:43", after := #[{ on := 7, ground := Ground.data }, { on := 24, ground := Ground.data }], guard := none }) (v := ?q124v) rfl (by kernel_rfl) (by kernel_rfl) (by kernel_rfl) (fun _ _ _ h => h) (Or.inl ⟨by rfl, ?q124h⟩) hHeld ?q124r
            case q124h => (intro wq hSw; clear hSw; go_simp; try with_reducible rfl)
            try simp only [Act.put, List.setIfInBounds_toArray, List.set_cons_zero, List.set_cons_succ]
            refine wpAnyH_done (by kernel_rfl) ?_ _
            go_wp2_with fail
            go_ret
            exact ⟨by rw [HX.out]; rfl, HS22.out.old⟩
          case true =>
            have HLy1 := Lib.hid (HLy.out.1 rfl)
            have HU : Hid (∀ z, (l.take i).getLast? = some z → GLt z x) := fun z hz => by
              rw [last_take HIp.out HYp.out] at hz
              rw [← Option.some.inj hz]; exact HLy1.out
            clear hNx HLy HLy1
            go_upto_region 6 with (fail)
            refine wp_region_held_drew (S := fun w' => w'.rangeAt w.heap.size 0 (tbCells (.slice (some ⟨g, off, none⟩) l.length cap) (.slice a2 m.length cap2)) ∧ w'.rangeAt g (off + i * 4) (grCells x) ∧ w'.rangeAt g (off + p * 4) (grCells y)) (by kernel_rfl) (⟨(fun j v hv => by rw [Nat.zero_add]; exact ((HY.out).drew).at 0 rfl j hv), (elem_rng (HRg.out _ ((HY.out).drew).old) HXi.out), (elem_rng (HRg.out _ ((HY.out).drew).old) HYp.out)⟩) (fun hHeld => ?_)
            refine wpAnyH_take (i := 0) (oi := { dst := some 23, op := Op.fieldAddr 25 (Operand.tmp 1) 0, type := 0, pos := "ref.go:43", after := #[], guard := none }) (v := ?q201v) rfl (by kernel_rfl) (by kernel_rfl) (by kernel_rfl) (fun _ _ _ h => h) (Or.inl ⟨by rfl, ?q201h⟩) hHeld ?q201r
            case q201h => (intro wq hSw; clear hSw; go_simp; try with_reducible rfl)
            try simp only [Act.put, List.setIfInBounds_toArray, List.set_cons_zero, List.set_cons_succ]
            refine wpAnyH_take (i := 1) (oi := { dst := some 24, op := Op.load 23 (Operand.tmp 23), type := 23, pos := "ref.go:43", after := #[{ on := 0, ground := Ground.data }], guard := none }) (v := .slice (some ⟨g, off, none⟩) l.length cap) rfl (by kernel_rfl) (by kernel_rfl) (by kernel_rfl) (fun _ _ _ h => h) (Or.inl ⟨by rfl, ?q202h⟩) hHeld ?q202r
            case q202h => (intro wq hSw; have lq := (hSw.1) 0 (.slice (some ⟨g, off, none⟩) l.length cap) rfl; simp only [Nat.zero_add] at lq; clear hSw; go_simp; try with_reducible rfl)
            try simp only [Act.put, List.setIfInBounds_toArray, List.set_cons_zero, List.set_cons_succ]
            refine wpAnyH_take (i := 2) (oi := { dst := some 25, op := Op.move (Operand.tmp 3), type := 3, pos := "ref.go:43", after := #[], guard := none }) (v := ?q203v) rfl (by kernel_rfl) (by kernel_rfl) (by kernel_rfl) (fun _ _ _ h => h) (Or.inl ⟨by rfl, ?q203h⟩) hHeld ?q203r
            case q203h => (intro wq hSw; clear hSw; go_simp; try with_reducible rfl)
            try simp only [Act.put, List.setIfInBounds_toArray, List.set_cons_zero, List.set_cons_succ]
            refine wpAnyH_take (i := 3) (oi := { dst := some 26, op := Op.indexAddr 23 (Operand.tmp 24) (Operand.tmp 25), type := 0, pos := "ref.go:43", after := #[{ on := 1, ground := Ground.data }, { on := 2, ground := Ground.data }], guard := none }) (v := ?q204v) rfl (by kernel_rfl) (by kernel_rfl) (by kernel_rfl) (fun _ _ _ h => h) (Or.inl ⟨by rfl, ?q204h⟩) hHeld ?q204r
            case q204h => (intro wq hSw; clear hSw; go_simp; try with_reducible rfl)
            try simp only [Act.put, List.setIfInBounds_toArray, List.set_cons_zero, List.set_cons_succ]
            refine wpAnyH_take (i := 4) (oi := { dst := some 27, op := Op.load 29 (Operand.tmp 26), type := 29, pos := "ref.go:43", after := #[{ on := 3, ground := Ground.data }], guard := none }) rfl (by kernel_rfl) (by kernel_rfl) (by kernel_rfl) (fun _ _ _ h => h) (yieldsIf_load_mid (by rfl) 29 (.tmp 26) rfl g (off + i * 4) rfl (grCells x) _ (fun _ h => h.2.1) HUG.out rfl (info_gr)) hHeld ?_
            try simp only [Act.put, List.setIfInBounds_toArray, List.set_cons_zero, List.set_cons_succ]
            refine wpAnyH_ready (rs := [5]) (by kernel_rfl) (by simp) ?_
            refine AllReadyH.cons (o := { dst := some 28, op := Op.call { callee := Callee.value (Operand.func 49), args := #[Operand.tmp 27], argTypes := #[29] }, type := 4, pos := "ref.go:43", after := #[{ on := 4, ground := Ground.data }], guard := none }) rfl (fun K hK => ?_) (AllReadyH.nil)
            go_simp
            go_wp2_with (go_at_call 49; refine (HGr.out _).mono ?_; rintro e w21 ⟨rfl, hb⟩)
            have HS21 : Hid (Hp w [.ob (w.heap.size) 25 (tbCells (.slice (some ⟨g, off, none⟩) l.length cap) (.slice a2 m.length cap2))] w21) := ((HY.out).drew).calls hb
            refine hK.out _ _ (⟨(fun j v hv => by rw [Nat.zero_add]; exact (HS21.out).at 0 rfl j hv), (elem_rng (HRg.out _ (HS21.out).old) HXi.out), (elem_rng (HRg.out _ (HS21.out).old) HYp.out)⟩) (fun hHeld => ?_)
            clear hK K hb
            try simp only [Act.put, List.setIfInBounds_toArray, List.set_cons_zero, List.set_cons_succ]
            refine wpAnyH_take (i := 6) (oi := { dst := some 29, op := Op.unOp UnOp.not 4 (Operand.tmp 28), type := 4, pos := "ref.go:43", after := #[{ on := 5, ground := Ground.data }], guard := none }) (v := ?q206v) rfl (by kernel_rfl) (by kernel_rfl) (by kernel_rfl) (fun _ _ _ h => h) (Or.inl ⟨by rfl, ?q206h⟩) hHeld ?q206r
            case q206h => (intro wq hSw; clear hSw; go_simp; try with_reducible rfl)
            try simp only [Act.put, List.setIfInBounds_toArray, List.set_cons_zero, List.set_cons_succ]
            refine wpAnyH_take (i := 7) (oi := { dst := some 30, op := Op.move (Operand.tmp 29), type := 4, pos := "ref.go:43", after := #[{ on := 6, ground := Ground.data }, { on := 5, ground := Ground.chain }], guard := none }) (v := ?q207v) rfl (by kernel_rfl) (by kernel_rfl) (by kernel_rfl) (fun _ _ _ h => h) (Or.inl ⟨by rfl, ?q207h⟩) hHeld ?q207r
            case q207h => (intro wq hSw; clear hSw; go_simp; try with_reducible rfl)
            try simp only [Act.put, List.setIfInBounds_toArray, List.set_cons_zero, List.set_cons_succ]
            refine wpAnyH_take (i := 8) (oi := { dst := some 31, op := Op.move (Operand.tmp 3), type := 3, pos := "ref.go:43", after := #[{ on := 7, ground := Ground.guard }], guard := some (7, false) }) (v := ?q208v) rfl (by kernel_rfl) (by kernel_rfl) (by kernel_rfl) (fun _ _ _ h => h) (Or.inl ⟨by rfl, ?q208h⟩) hHeld ?q208r
            case q208h => (intro wq hSw; clear hSw; go_simp; try with_reducible rfl)
            try simp only [Act.put, List.setIfInBounds_toArray, List.set_cons_zero, List.set_cons_succ]
            refine wpAnyH_take (i := 9) (oi := { dst := some 32, op := Op.binOp BinOp.gtr 3 (Operand.tmp 31) (Operand.const (Value.int IntKind.i64 0)) 3, type := 4, pos := "ref.go:43", after := #[{ on := 8, ground := Ground.data }, { on := 7, ground := Ground.guard }], guard := some (7, false) }) (v := .bool true) rfl (by kernel_rfl) (by kernel_rfl) (by kernel_rfl) (fun _ _ _ h => h) (Or.inl ⟨by rfl, ?q209h⟩) hHeld ?q209r
            case q209h => (intro wq hSw; clear hSw; go_simp; try with_reducible rfl)
            try simp only [Act.put, List.setIfInBounds_toArray, List.set_cons_zero, List.set_cons_succ]
            refine wpAnyH_take (i := 10) (oi := { dst := some 33, op := Op.move (Operand.tmp 32), type := 4, pos := "ref.go:43", after := #[{ on := 9, ground := Ground.data }, { on := 7, ground := Ground.chain }, { on := 7, ground := Ground.guard }], guard := some (7, false) }) (v := ?q210v) rfl (by kernel_rfl) (by kernel_rfl) (by kernel_rfl) (fun _ _ _ h => h) (Or.inl ⟨by rfl, ?q210h⟩) hHeld ?q210r
            case q210h => (intro wq hSw; clear hSw; go_simp; try with_reducible rfl)
            try simp only [Act.put, List.setIfInBounds_toArray, List.set_cons_zero, List.set_cons_succ]
            refine wpAnyH_take (i := 11) (oi := { dst := some 34, op := Op.fieldAddr 25 (Operand.tmp 1) 0, type := 0, pos := "ref.go:43", after := #[{ on := 10, ground := Ground.guard }], guard := some (10, true) }) (v := ?q211v) rfl (by kernel_rfl) (by kernel_rfl) (by kernel_rfl) (fun _ _ _ h => h) (Or.inl ⟨by rfl, ?q211h⟩) hHeld ?q211r
            case q211h => (intro wq hSw; clear hSw; go_simp; try with_reducible rfl)
            try simp only [Act.put, List.setIfInBounds_toArray, List.set_cons_zero, List.set_cons_succ]
            refine wpAnyH_take (i := 12) (oi := { dst := some 35, op := Op.load 23 (Operand.tmp 34), type := 23, pos := "ref.go:43", after := #[{ on := 11, ground := Ground.data }, { on := 10, ground := Ground.guard }], guard := some (10, true) }) (v := .slice (some ⟨g, off, none⟩) l.length cap) rfl (by kernel_rfl) (by kernel_rfl) (by kernel_rfl) (fun _ _ _ h => h) (Or.inl ⟨by rfl, ?q212h⟩) hHeld ?q212r
            case q212h => (intro wq hSw; have lq := (hSw.1) 0 (.slice (some ⟨g, off, none⟩) l.length cap) rfl; simp only [Nat.zero_add] at lq; clear hSw; go_simp; try with_reducible rfl)
            try simp only [Act.put, List.setIfInBounds_toArray, List.set_cons_zero, List.set_cons_succ]
            refine wpAnyH_take (i := 13) (oi := { dst := some 36, op := Op.move (Operand.tmp 3), type := 3, pos := "ref.go:43", after := #[{ on := 10, ground := Ground.guard }], guard := some (10, true) }) (v := ?q213v) rfl (by kernel_rfl) (by kernel_rfl) (by kernel_rfl) (fun _ _ _ h => h) (Or.inl ⟨by rfl, ?q213h⟩) hHeld ?q213r
            case q213h => (intro wq hSw; clear hSw; go_simp; try with_reducible rfl)
            try simp only [Act.put, List.setIfInBounds_toArray, List.set_cons_zero, List.set_cons_succ]
            refine wpAnyH_take (i := 14) (oi := { dst := some 37, op := Op.binOp BinOp.sub 3 (Operand.tmp 36) (Operand.const (Value.int IntKind.i64 1)) 3, type := 3, pos := "ref.go:43", after := #[{ on := 13, ground := Ground.data }, { on := 10, ground := Ground.guard }], guard := some (10, true) }) (v := ?q214v) rfl (by kernel_rfl) (by kernel_rfl) (by kernel_rfl) (fun _ _ _ h => h) (Or.inl ⟨by rfl, ?q214h⟩) hHeld ?q214r
            case q214h => (intro wq hSw; clear hSw; go_simp; try with_reducible rfl)
            try simp only [Act.put, List.setIfInBounds_toArray, List.set_cons_zero, List.set_cons_succ]
            refine wpAnyH_take (i := 15) (oi := { dst := some 38, op := Op.indexAddr 23 (Operand.tmp 35) (Operand.tmp 37), type := 0, pos := "ref.go:43", after := #[{ on := 12, ground := Ground.data }, { on := 14, ground := Ground.data }, { on := 10, ground := Ground.guard }], guard := some (10, true) }) (v := ?q215v) rfl (by kernel_rfl) (by kernel_rfl) (by kernel_rfl) (fun _ _ _ h => h) (Or.inl ⟨by rfl, ?q215h⟩) hHeld ?q215r
            case q215h => (intro wq hSw; clear hSw; go_simp; try with_reducible rfl)
            try simp only [Act.put, List.setIfInBounds_toArray, List.set_cons_zero, List.set_cons_succ]
            refine wpAnyH_take (i := 16) (oi := { dst := some 39, op := Op.load 29 (Operand.tmp 38), type := 29, pos := "ref.go:43", after := #[{ on := 15, ground := Ground.data }, { on := 10, ground := Ground.guard }], guard := some (10, true) }) rfl (by kernel_rfl) (by kernel_rfl) (by kernel_rfl) (fun _ _ _ h => h) (yieldsIf_load_mid (by rfl) 29 (.tmp 38) rfl g (off + p * 4) rfl (grCells y) _ (fun _ h => h.2.2) HUG.out rfl (info_gr)) hHeld ?_
            try simp only [Act.put, List.setIfInBounds_toArray, List.set_cons_zero, List.set_cons_succ]
            refine wpAnyH_take (i := 17) (oi := { dst := some 40, op := Op.fieldAddr 25 (Operand.tmp 1) 0, type := 0, pos := "ref.go:43", after := #[{ on := 10, ground := Ground.guard }], guard := some (10, true) }) (v := ?q217v) rfl (by kernel_rfl) (by kernel_rfl) (by kernel_rfl) (fun _ _ _ h => h) (Or.inl ⟨by rfl, ?q217h⟩) hHeld ?q217r
            case q217h => (intro wq hSw; clear hSw; go_simp; try with_reducible rfl)
            try simp only [Act.put, List.setIfInBounds_toArray, List.set_cons_zero, List.set_cons_succ]
            refine wpAnyH_take (i := 18) (oi := { dst := some 41, op := Op.load 23 (Operand.tmp 40), type := 23, pos := "ref.go:43", after := #[{ on := 17, ground := Ground.data }, { on := 10, ground := Ground.guard }], guard := some (10, true) }) (v := .slice (some ⟨g, off, none⟩) l.length cap) rfl (by kernel_rfl) (by kernel_rfl) (by kernel_rfl) (fun _ _ _ h => h) (Or.inl ⟨by rfl, ?q218h⟩) hHeld ?q218r
            case q218h => (intro wq hSw; have lq := (hSw.1) 0 (.slice (some ⟨g, off, none⟩) l.length cap) rfl; simp only [Nat.zero_add] at lq; clear hSw; go_simp; try with_reducible rfl)
            try simp only [Act.put, List.setIfInBounds_toArray, List.set_cons_zero, List.set_cons_succ]
            refine wpAnyH_take (i := 19) (oi := { dst := some 42, op := Op.move (Operand.tmp 3), type := 3, pos := "ref.go:43", after := #[{ on := 10, ground := Ground.guard }], guard := some (10, true) }) (v := ?q219v) rfl (by kernel_rfl) (by kernel_rfl) (by kernel_rfl) (fun _ _ _ h => h) (Or.inl ⟨by rfl, ?q219h⟩) hHeld ?q219r
            case q219h => (intro wq hSw; clear hSw; go_simp; try with_reducible rfl)
            try simp only [Act.put, List.setIfInBounds_toArray, List.set_cons_zero, List.set_cons_succ]
            refine wpAnyH_take (i := 20) (oi := { dst := some 43, op := Op.indexAddr 23 (Operand.tmp 41) (Operand.tmp 42), type := 0, pos := "ref.go:43", after := #[{ on := 18, ground := Ground.data }, { on := 19, ground := Ground.data }, { on := 10, ground := Ground.guard }], guard := some (10, true) }) (v := ?q220v) rfl (by kernel_rfl) (by kernel_rfl) (by kernel_rfl) (fun _ _ _ h => h) (Or.inl ⟨by rfl, ?q220h⟩) hHeld ?q220r
            case q220h => (intro wq hSw; clear hSw; go_simp; try with_reducible rfl)
            try simp only [Act.put, List.setIfInBounds_toArray, List.set_cons_zero, List.set_cons_succ]
            refine wpAnyH_take (i := 21) (oi := { dst := some 44, op := Op.load 29 (Operand.tmp 43), type := 29, pos := "ref.go:43", after := #[{ on := 20, ground := Ground.data }, { on := 10, ground := Ground.guard }], guard := some (10, true) }) rfl (by kernel_rfl) (by kernel_rfl) (by kernel_rfl) (fun _ _ _ h => h) (yieldsIf_load_mid (by rfl) 29 (.tmp 43) rfl g (off + i * 4) rfl (grCells x) _ (fun _ h => h.2.1) HUG.out rfl (info_gr)) hHeld ?_
            try simp only [Act.put, List.setIfInBounds_toArray, List.set_cons_zero, List.set_cons_succ]
            refine wpAnyH_ready (rs := [22]) (by kernel_rfl) (by simp) ?_
            refine AllReadyH.cons (o := { dst := some 45, op := Op.call { callee := Callee.value (Operand.func 50), args := #[Operand.tmp 39, Operand.tmp 44], argTypes := #[29, 29] }, type := 4, pos := "ref.go:43", after := #[{ on := 16, ground := Ground.data }, { on := 21, ground := Ground.data }, { on := 10, ground := Ground.chain }, { on := 10, ground := Ground.guard }], guard := some (10, true) }) rfl (fun K hK => ?_) (AllReadyH.nil)
            go_simp
            go_wp2_with (go_at_call 50; refine (HLs.out _).mono ?_; rintro e w22 ⟨rfl, hb⟩)
            have HS22 : Hid (Hp w [.ob (w.heap.size) 25 (tbCells (.slice (some ⟨g, off, none⟩) l.length cap) (.slice a2 m.length cap2))] w22) := (HS21.out).calls hb
            refine hK.out _ _ (⟨(fun j v hv => by rw [Nat.zero_add]; exact (HS22.out).at 0 rfl j hv), (elem_rng (HRg.out _ (HS22.out).old) HXi.out), (elem_rng (HRg.out _ (HS22.out).old) HYp.out)⟩) (fun hHeld => ?_)
            clear hK K hb
            try simp only [Act.put, List.setIfInBounds_toArray, List.set_cons_zero, List.set_cons_succ]
            refine wpAnyH_take (i := 23) (oi := { dst := some 46, op := Op.unOp UnOp.not 4 (Operand.tmp 45), type := 4, pos := "ref.go:43", after := #[{ on := 22, ground := Ground.data }, { on := 10, ground := Ground.guard }], guard := some (10, true) }) (v := ?q222v) rfl (by kernel_rfl) (by kernel_rfl) (by kernel_rfl) (fun _ _ _ h => h) (Or.inl ⟨by rfl, ?q222h⟩) hHeld ?q222r
            case q222h => (intro wq hSw; clear hSw; go_simp; try with_reducible rfl)
            try simp only [Act.put, List.setIfInBounds_toArray, List.set_cons_zero, List.set_cons_succ]
            refine wpAnyH_take (i := 24) (oi := { dst := some 47, op := Op.pick (Operand.tmp 33) (Operand.tmp 46) (Operand.const (Value.bool false)), type := 4, pos := "ref.go:43", after := #[{ on := 10, ground := Ground.data }, { on := 23, ground := Ground.data }, { on := 7, ground := Ground.guard }], guard := some (7, false) }) (v := ?q223v) rfl (by kernel_rfl) (by kernel_rfl) (by kernel_rfl) (fun _ _ _ h => h) (Or.inl ⟨by rfl, ?q223h⟩) hHeld ?q223r
            case q223h => (intro wq hSw; clear hSw; go_simp; try with_reducible rfl)
            try simp only [Act.put, List.setIfInBounds_toArray, List.set_cons_zero, List.set_cons_succ]
            refine wpAnyH_take (i := 25) (oi := { dst := some 48, op := Op.pick (Operand.tmp 30) (Operand.const (Value.bool true)) (Operand.tmp 47), type := 4, pos := "ref.go:43", after := #[{ on := 7, ground := Ground.data }, { on := 24, ground := Ground.data }], guard := none }) (v := ?q224v) rfl (by kernel_rfl) (by kernel_rfl) (by kernel_rfl) (fun _ _ _ h => h) (Or.inl ⟨by rfl, ?q224h⟩) hHeld ?q224r
            case q224h => (intro wq hSw; clear hSw; go_simp; try with_reducible rfl)
            try simp only [Act.put, List.setIfInBounds_toArray, List.set_cons_zero, List.set_cons_succ]
            refine wpAnyH_done (by kernel_rfl) ?_ _
            go_wp2_with fail
            go_loopw [4] (fun kv wq => ∃ (c : Int) (q : Nat), kv = .int .i64 c ∧ c = (q : Int) - 1 ∧ q ≤ i ∧ (∀ k, q ≤ k → k < i → ∀ z, l[k]? = some z → ¬ Conf z x) ∧ Hp w [.ob w.heap.size 25 (tbCells (.slice (some ⟨g, off, none⟩) l.length cap) (.slice a2 m.length cap2))] wq) (fun kv _ => (intOf kv + 1).toNat)
            case atStart => exact ⟨_, i, rfl, (by first | rfl | (have := HIp.out; omega)), Nat.le_refl _, fun k h1 h2 => absurd h2 (by omega), HS22.out⟩
            case round =>
              obtain ⟨c, q, rfl, hc, hq, hfr, hs⟩ := hrel
              clear b0 HY
              have HY := Lib.hid hs
              have HFr := Lib.hid hfr
              have HQ := Lib.hid hq
              have HC := Lib.hid hc
              have b0 : wr.cell? ⟨w.heap.size, 0, none⟩ = some (.slice (some ⟨g, off, none⟩) l.length cap) := hs.at 0 rfl 0 rfl
              clear hs hfr HS22
              by_cases hq0 : q = 0
              · obtain rfl : c = -1 := by omega
                have HAll : Hid (∀ z ∈ l.take i, ¬ Conf z x) := Lib.hid (apart_all (by have := HFr.out; rwa [hq0] at this))
                clear hq0 hc hq HFr HQ HC
                go_wp2_with fail
                go_quiet (fail)
                have HY2 := Lib.hid (HY.out.drewN nq)
                clear b0 HY
                generalize wr.drewN nq = w2 at *
                go_wp2_with fail
                go_roundw
                case rel => exact ⟨i + 1, HLt.out, by go_num, by rw [lk_take_snoc HXi.out]; exact held_snoc HH.out HOk1.out HU.out HAll.out, HY2.out⟩
                case measure => simp [intOf]; try (have := HLt.out; omega)
              · obtain ⟨p, hqp⟩ : ∃ p, q = p + 1 := ⟨q - 1, by omega⟩
                obtain rfl : c = (p : Int) := by omega
                have HQp := Lib.hid hqp
                obtain ⟨y, hy⟩ : ∃ y, l[p]? = some y := ⟨_, List.getElem?_eq_getElem (by have := HLt.out; omega)⟩
                have HYp := Lib.hid hy
                have hpi : (p : Int) < (l.length : Int) := by have := HLt.out; omega
                have hp0 : (0 : Int) ≤ (p : Int) := by omega
                have HGy := Lib.hid (HGe.out y (List.mem_of_getElem? hy))
                have cy0 : wr.cell? ⟨g, off + p * 4 + 1, none⟩ = some (.int .i64 y.page) := HRg.out wr HY.out.old (p * 4 + 1) _ (grRow_at l p y hy 1 _ rfl)
                have cy1 : wr.cell? ⟨g, off + p * 4 + 2, none⟩ = some (.int .i64 y.slot) := HRg.out wr HY.out.old (p * 4 + 2) _ (grRow_at l p y hy 2 _ rfl)
                have cx0 : wr.cell? ⟨g, off + i * 4 + 1, none⟩ = some (.int .i64 x.page) := HRg.out wr HY.out.old (i * 4 + 1) _ (grRow_at l i x HXi.out 1 _ rfl)
                have cx1 : wr.cell? ⟨g, off + i * 4 + 2, none⟩ = some (.int .i64 x.slot) := HRg.out wr HY.out.old (i * 4 + 2) _ (grRow_at l i x HXi.out 2 _ rfl)
                have hqe : ∀ W, Sem.run Try.prog (binOp .eql 27 (.agg #[.int .i64 y.page, .int .i64 y.slot]) (.agg #[.int .i64 x.page, .int .i64 x.slot])) W = .ok (.bool (sameV y.lock x.lock)) W := fun W => run_eql (equal_lk y.lock x.lock HGy.out.lock HGx.out.lock) W
                have hss : sameV y.lock x.lock = (decide (y.page = x.page) && decide (y.slot = x.slot)) := lock_same y x.lock
                have HCf : Hid (∀ W, Calls Try.prog 34 #[.agg (grCells y).toArray, .agg (grCells x).toArray] W fun e w' => e = .returned (.bool (confB y x)) ∧ Below W.heap.size W w') := fun W => rconflict_any y x W HGy.out HGx.out
                clear hqp hy hq hq0 hc
                cases hsv : sameV y.lock x.lock
                · have HAll : Hid (∀ z ∈ l.take i, ¬ Conf z x) := Lib.hid (apart_below HH.out HXi.out HQp.out HQ.out HYp.out HU.out (by rw [hsv] at hss; intro h; simp [h.1, h.2] at hss) HFr.out)
                  rw [hsv] at hqe
                  clear hss hsv
                  go_wp2_with fail
                  go_quiet (fail)
                  have HY2 := Lib.hid (HY.out.drewN nq)
                  clear b0 cy0 cy1 cx0 cx1 HY HCf hqe
                  generalize wr.drewN nq = w2 at *
                  go_wp2_with fail
                  go_roundw
                  case rel => exact ⟨i + 1, HLt.out, by go_num, by rw [lk_take_snoc HXi.out]; exact held_snoc HH.out HOk1.out HU.out HAll.out, HY2.out⟩
                  case measure => simp [intOf]; try (have := HLt.out; omega)
                · rw [hsv] at hqe
                  clear hss hsv
                  go_wp2_with fail
                  go_quiet (fail)
                  have HY2 := Lib.hid (HY.out.drewN nq)
                  clear b0 cy0 cy1 cx0 cx1 HY hqe
                  generalize wr.drewN nq = w2 at *
                  have hNx := HNc.out i p x y HXi.out (by have := HQp.out; have := HQ.out; omega) HYp.out
                  have HCi := Lib.hid (@confB_iff y x)
                  generalize confB y x = cb at *
                  go_wp2_with fail
                  cases cb
                  case true =>
                    have HX := Lib.hid (hNx rfl)
                    clear hNx HCi
                    refine wp_region_held_drew (S := fun w' => w'.rangeAt w.heap.size 0 (tbCells (.slice (some ⟨g, off, none⟩) l.length cap) (.slice a2 m.length cap2)) ∧ w'.rangeAt g (off + i * 4) (grCells x) ∧ w'.rangeAt g (off + p * 4) (grCells y)) (by kernel_rfl) (⟨(fun j v hv => by rw [Nat.zero_add]; exact ((HY2.out).drew).at 0 rfl j hv), (elem_rng (HRg.out _ ((HY2.out).drew).old) HXi.out), (elem_rng (HRg.out _ ((HY2.out).drew).old) HYp.out)⟩) (fun hHeld => ?_)
                    refine wpAnyH_take (i := 0) (oi := { dst := some 70, op := Op.fieldAddr 25 (Operand.tmp 1) 0, type := 0, pos := "ref.go:47", after := #[], guard := none }) (v := ?q285v) rfl (by kernel_rfl) (by kernel_rfl) (by kernel_rfl) (fun _ _ _ h => h) (Or.inl ⟨by rfl, ?q285h⟩) hHeld ?q285r
                    case q285h => (intro wq hSw; clear hSw; go_simp; try with_reducible rfl)
                    try simp only [Act.put, List.setIfInBounds_toArray, List.set_cons_zero, List.set_cons_succ]
                    refine wpAnyH_take (i := 1) (oi := { dst := some 71, op := Op.load 23 (Operand.tmp 70), type := 23, pos := "ref.go:47", after := #[{ on := 0, ground := Ground.data }], guard := none }) (v := .slice (some ⟨g, off, none⟩) l.length cap) rfl (by kernel_rfl) (by kernel_rfl) (by kernel_rfl) (fun _ _ _ h => h) (Or.inl ⟨by rfl, ?q286h⟩) hHeld ?q286r
                    case q286h => (intro wq hSw; have lq := (hSw.1) 0 (.slice (some ⟨g, off, none⟩) l.length cap) rfl; simp only [Nat.zero_add] at lq; clear hSw; go_simp; try with_reducible rfl)
                    try simp only [Act.put, List.setIfInBounds_toArray, List.set_cons_zero, List.set_cons_succ]
                    refine wpAnyH_take (i := 2) (oi := { dst := some 72, op := Op.move (Operand.tmp 4), type := 3, pos := "ref.go:47", after := #[], guard := none }) (v := ?q287v) rfl (by kernel_rfl) (by kernel_rfl) (by kernel_rfl) (fun _ _ _ h => h) (Or.inl ⟨by rfl, ?q287h⟩) hHeld ?q287r
                    case q287h => (intro wq hSw; clear hSw; go_simp; try with_reducible rfl)
                    try simp only [Act.put, List.setIfInBounds_toArray, List.set_cons_zero, List.set_cons_succ]
                    refine wpAnyH_take (i := 3) (oi := { dst := some 73, op := Op.indexAddr 23 (Operand.tmp 71) (Operand.tmp 72), type := 0, pos := "ref.go:47", after := #[{ on := 1, ground := Ground.data }, { on := 2, ground := Ground.data }], guard := none }) (v := ?q288v) rfl (by kernel_rfl) (by kernel_rfl) (by kernel_rfl) (fun _ _ _ h => h) (Or.inl ⟨by rfl, ?q288h⟩) hHeld ?q288r
                    case q288h => (intro wq hSw; clear hSw; go_simp; try with_reducible rfl)
                    try simp only [Act.put, List.setIfInBounds_toArray, List.set_cons_zero, List.set_cons_succ]
                    refine wpAnyH_take (i := 4) (oi := { dst := some 74, op := Op.load 29 (Operand.tmp 73), type := 29, pos := "ref.go:47", after := #[{ on := 3, ground := Ground.data }], guard := none }) rfl (by kernel_rfl) (by kernel_rfl) (by kernel_rfl) (fun _ _ _ h => h) (yieldsIf_load_mid (by rfl) 29 (.tmp 73) rfl g (off + p * 4) rfl (grCells y) _ (fun _ h => h.2.2) HUG.out rfl (info_gr)) hHeld ?_
                    try simp only [Act.put, List.setIfInBounds_toArray, List.set_cons_zero, List.set_cons_succ]
                    refine wpAnyH_take (i := 5) (oi := { dst := some 75, op := Op.fieldAddr 25 (Operand.tmp 1) 0, type := 0, pos := "ref.go:47", after := #[], guard := none }) (v := ?q290v) rfl (by kernel_rfl) (by kernel_rfl) (by kernel_rfl) (fun _ _ _ h => h) (Or.inl ⟨by rfl, ?q290h⟩) hHeld ?q290r
                    case q290h => (intro wq hSw; clear hSw; go_simp; try with_reducible rfl)
                    try simp only [Act.put, List.setIfInBounds_toArray, List.set_cons_zero, List.set_cons_succ]
                    refine wpAnyH_take (i := 6) (oi := { dst := some 76, op := Op.load 23 (Operand.tmp 75), type := 23, pos := "ref.go:47", after := #[{ on := 5, ground := Ground.data }], guard := none }) (v := .slice (some ⟨g, off, none⟩) l.length cap) rfl (by kernel_rfl) (by kernel_rfl) (by kernel_rfl) (fun _ _ _ h => h) (Or.inl ⟨by rfl, ?q291h⟩) hHeld ?q291r
                    case q291h => (intro wq hSw; have lq := (hSw.1) 0 (.slice (some ⟨g, off, none⟩) l.length cap) rfl; simp only [Nat.zero_add] at lq; clear hSw; go_simp; try with_reducible rfl)
                    try simp only [Act.put, List.setIfInBounds_toArray, List.set_cons_zero, List.set_cons_succ]
                    refine wpAnyH_take (i := 7) (oi := { dst := some 77, op := Op.move (Operand.tmp 3), type := 3, pos := "ref.go:47", after := #[], guard := none }) (v := ?q292v) rfl (by kernel_rfl) (by kernel_rfl) (by kernel_rfl) (fun _ _ _ h => h) (Or.inl ⟨by rfl, ?q292h⟩) hHeld ?q292r
                    case q292h => (intro wq hSw; clear hSw; go_simp; try with_reducible rfl)
                    try simp only [Act.put, List.setIfInBounds_toArray, List.set_cons_zero, List.set_cons_succ]
                    refine wpAnyH_take (i := 8) (oi := { dst := some 78, op := Op.indexAddr 23 (Operand.tmp 76) (Operand.tmp 77), type := 0, pos := "ref.go:47", after := #[{ on := 6, ground := Ground.data }, { on := 7, ground := Ground.data }], guard := none }) (v := ?q293v) rfl (by kernel_rfl) (by kernel_rfl) (by kernel_rfl) (fun _ _ _ h => h) (Or.inl ⟨by rfl, ?q293h⟩) hHeld ?q293r
                    case q293h => (intro wq hSw; clear hSw; go_simp; try with_reducible rfl)
                    try simp only [Act.put, List.setIfInBounds_toArray, List.set_cons_zero, List.set_cons_succ]
                    refine wpAnyH_take (i := 9) (oi := { dst := some 79, op := Op.load 29 (Operand.tmp 78), type := 29, pos := "ref.go:47", after := #[{ on := 8, ground := Ground.data }], guard := none }) rfl (by kernel_rfl) (by kernel_rfl) (by kernel_rfl) (fun _ _ _ h => h) (yieldsIf_load_mid (by rfl) 29 (.tmp 78) rfl g (off + i * 4) rfl (grCells x) _ (fun _ h => h.2.1) HUG.out rfl (info_gr)) hHeld ?_
                    try simp only [Act.put, List.setIfInBounds_toArray, List.set_cons_zero, List.set_cons_succ]
                    refine wpAnyH_ready (rs := [10]) (by kernel_rfl) (by simp) ?_
                    refine AllReadyH.cons (o := { dst := some 80, op := Op.call { callee := Callee.value (Operand.func 34), args := #[Operand.tmp 74, Operand.tmp 79], argTypes := #[29, 29] }, type := 4, pos := "ref.go:47", after := #[{ on := 4, ground := Ground.data }, { on := 9, ground := Ground.data }], guard := none }) rfl (fun K hK => ?_) (AllReadyH.nil)
                    go_simp
                    go_wp2_with (go_at_call 34; refine (HCf.out _).mono ?_; rintro e w61 ⟨rfl, hb⟩)
                    have HS61 : Hid (Hp w [.ob (w.heap.size) 25 (tbCells (.slice (some ⟨g, off, none⟩) l.length cap) (.slice a2 m.length cap2))] w61) := ((HY2.out).drew).calls hb
                    refine hK.out _ _ (⟨(fun j v hv => by rw [Nat.zero_add]; exact (HS61.out).at 0 rfl j hv), (elem_rng (HRg.out _ (HS61.out).old) HXi.out), (elem_rng (HRg.out _ (HS61.out).old) HYp.out)⟩) (fun hHeld => ?_)
                    clear hK K hb
                    try simp only [Act.put, List.setIfInBounds_toArray, List.set_cons_zero, List.set_cons_succ]
                    refine wpAnyH_done (by kernel_rfl) ?_ _
                    go_wp2_with fail
                    go_ret
                    exact ⟨by rw [HX.out]; rfl, HS61.out.old⟩
                  case false =>
                    have HNc1 : Hid (¬ Conf y x) := Lib.hid (fun h => by have := HCi.out.2 h; cases this)
                    clear hNx HCi
                    refine wp_region_held_drew (S := fun w' => w'.rangeAt w.heap.size 0 (tbCells (.slice (some ⟨g, off, none⟩) l.length cap) (.slice a2 m.length cap2)) ∧ w'.rangeAt g (off + i * 4) (grCells x) ∧ w'.rangeAt g (off + p * 4) (grCells y)) (by kernel_rfl) (⟨(fun j v hv => by rw [Nat.zero_add]; exact ((HY2.out).drew).at 0 rfl j hv), (elem_rng (HRg.out _ ((HY2.out).drew).old) HXi.out), (elem_rng (HRg.out _ ((HY2.out).drew).old) HYp.out)⟩) (fun hHeld => ?_)
                    refine wpAnyH_take (i := 0) (oi := { dst := some 70, op := Op.fieldAddr 25 (Operand.tmp 1) 0, type := 0, pos := "ref.go:47", after := #[], guard := none }) (v := ?q275v) rfl (by kernel_rfl) (by kernel_rfl) (by kernel_rfl) (fun _ _ _ h => h) (Or.inl ⟨by rfl, ?q275h⟩) hHeld ?q275r
                    case q275h => (intro wq hSw; clear hSw; go_simp; try with_reducible rfl)
                    try simp only [Act.put, List.setIfInBounds_toArray, List.set_cons_zero, List.set_cons_succ]
                    refine wpAnyH_take (i := 1) (oi := { dst := some 71, op := Op.load 23 (Operand.tmp 70), type := 23, pos := "ref.go:47", after := #[{ on := 0, ground := Ground.data }], guard := none }) (v := .slice (some ⟨g, off, none⟩) l.length cap) rfl (by kernel_rfl) (by kernel_rfl) (by kernel_rfl) (fun _ _ _ h => h) (Or.inl ⟨by rfl, ?q276h⟩) hHeld ?q276r
                    case q276h => (intro wq hSw; have lq := (hSw.1) 0 (.slice (some ⟨g, off, none⟩) l.length cap) rfl; simp only [Nat.zero_add] at lq; clear hSw; go_simp; try with_reducible rfl)
                    try simp only [Act.put, List.setIfInBounds_toArray, List.set_cons_zero, List.set_cons_succ]
                    refine wpAnyH_take (i := 2) (oi := { dst := some 72, op := Op.move (Operand.tmp 4), type := 3, pos := "ref.go:47", after := #[], guard := none }) (v := ?q277v) rfl (by kernel_rfl) (by kernel_rfl) (by kernel_rfl) (fun _ _ _ h => h) (Or.inl ⟨by rfl, ?q277h⟩) hHeld ?q277r
                    case q277h => (intro wq hSw; clear hSw; go_simp; try with_reducible rfl)
                    try simp only [Act.put, List.setIfInBounds_toArray, List.set_cons_zero, List.set_cons_succ]
                    refine wpAnyH_take (i := 3) (oi := { dst := some 73, op := Op.indexAddr 23 (Operand.tmp 71) (Operand.tmp 72), type := 0, pos := "ref.go:47", after := #[{ on := 1, ground := Ground.data }, { on := 2, ground := Ground.data }], guard := none }) (v := ?q278v) rfl (by kernel_rfl) (by kernel_rfl) (by kernel_rfl) (fun _ _ _ h => h) (Or.inl ⟨by rfl, ?q278h⟩) hHeld ?q278r
                    case q278h => (intro wq hSw; clear hSw; go_simp; try with_reducible rfl)
                    try simp only [Act.put, List.setIfInBounds_toArray, List.set_cons_zero, List.set_cons_succ]
                    refine wpAnyH_take (i := 4) (oi := { dst := some 74, op := Op.load 29 (Operand.tmp 73), type := 29, pos := "ref.go:47", after := #[{ on := 3, ground := Ground.data }], guard := none }) rfl (by kernel_rfl) (by kernel_rfl) (by kernel_rfl) (fun _ _ _ h => h) (yieldsIf_load_mid (by rfl) 29 (.tmp 73) rfl g (off + p * 4) rfl (grCells y) _ (fun _ h => h.2.2) HUG.out rfl (info_gr)) hHeld ?_
                    try simp only [Act.put, List.setIfInBounds_toArray, List.set_cons_zero, List.set_cons_succ]
                    refine wpAnyH_take (i := 5) (oi := { dst := some 75, op := Op.fieldAddr 25 (Operand.tmp 1) 0, type := 0, pos := "ref.go:47", after := #[], guard := none }) (v := ?q280v) rfl (by kernel_rfl) (by kernel_rfl) (by kernel_rfl) (fun _ _ _ h => h) (Or.inl ⟨by rfl, ?q280h⟩) hHeld ?q280r
                    case q280h => (intro wq hSw; clear hSw; go_simp; try with_reducible rfl)
                    try simp only [Act.put, List.setIfInBounds_toArray, List.set_cons_zero, List.set_cons_succ]
                    refine wpAnyH_take (i := 6) (oi := { dst := some 76, op := Op.load 23 (Operand.tmp 75), type := 23, pos := "ref.go:47", after := #[{ on := 5, ground := Ground.data }], guard := none }) (v := .slice (some ⟨g, off, none⟩) l.length cap) rfl (by kernel_rfl) (by kernel_rfl) (by kernel_rfl) (fun _ _ _ h => h) (Or.inl ⟨by rfl, ?q281h⟩) hHeld ?q281r
                    case q281h => (intro wq hSw; have lq := (hSw.1) 0 (.slice (some ⟨g, off, none⟩) l.length cap) rfl; simp only [Nat.zero_add] at lq; clear hSw; go_simp; try with_reducible rfl)
                    try simp only [Act.put, List.setIfInBounds_toArray, List.set_cons_zero, List.set_cons_succ]
                    refine wpAnyH_take (i := 7) (oi := { dst := some 77, op := Op.move (Operand.tmp 3), type := 3, pos := "ref.go:47", after := #[], guard := none }) (v := ?q282v) rfl (by kernel_rfl) (by kernel_rfl) (by kernel_rfl) (fun _ _ _ h => h) (Or.inl ⟨by rfl, ?q282h⟩) hHeld ?q282r
                    case q282h => (intro wq hSw; clear hSw; go_simp; try with_reducible rfl)
                    try simp only [Act.put, List.setIfInBounds_toArray, List.set_cons_zero, List.set_cons_succ]
                    refine wpAnyH_take (i := 8) (oi := { dst := some 78, op := Op.indexAddr 23 (Operand.tmp 76) (Operand.tmp 77), type := 0, pos := "ref.go:47", after := #[{ on := 6, ground := Ground.data }, { on := 7, ground := Ground.data }], guard := none }) (v := ?q283v) rfl (by kernel_rfl) (by kernel_rfl) (by kernel_rfl) (fun _ _ _ h => h) (Or.inl ⟨by rfl, ?q283h⟩) hHeld ?q283r
                    case q283h => (intro wq hSw; clear hSw; go_simp; try with_reducible rfl)
                    try simp only [Act.put, List.setIfInBounds_toArray, List.set_cons_zero, List.set_cons_succ]
                    refine wpAnyH_take (i := 9) (oi := { dst := some 79, op := Op.load 29 (Operand.tmp 78), type := 29, pos := "ref.go:47", after := #[{ on := 8, ground := Ground.data }], guard := none }) rfl (by kernel_rfl) (by kernel_rfl) (by kernel_rfl) (fun _ _ _ h => h) (yieldsIf_load_mid (by rfl) 29 (.tmp 78) rfl g (off + i * 4) rfl (grCells x) _ (fun _ h => h.2.1) HUG.out rfl (info_gr)) hHeld ?_
                    try simp only [Act.put, List.setIfInBounds_toArray, List.set_cons_zero, List.set_cons_succ]
                    refine wpAnyH_ready (rs := [10]) (by kernel_rfl) (by simp) ?_
                    refine AllReadyH.cons (o := { dst := some 80, op := Op.call { callee := Callee.value (Operand.func 34), args := #[Operand.tmp 74, Operand.tmp 79], argTypes := #[29, 29] }, type := 4, pos := "ref.go:47", after := #[{ on := 4, ground := Ground.data }, { on := 9, ground := Ground.data }], guard := none }) rfl (fun K hK => ?_) (AllReadyH.nil)
                    go_simp
                    go_wp2_with (go_at_call 34; refine (HCf.out _).mono ?_; rintro e w61 ⟨rfl, hb⟩)
                    have HS61 : Hid (Hp w [.ob (w.heap.size) 25 (tbCells (.slice (some ⟨g, off, none⟩) l.length cap) (.slice a2 m.length cap2))] w61) := ((HY2.out).drew).calls hb
                    refine hK.out _ _ (⟨(fun j v hv => by rw [Nat.zero_add]; exact (HS61.out).at 0 rfl j hv), (elem_rng (HRg.out _ (HS61.out).old) HXi.out), (elem_rng (HRg.out _ (HS61.out).old) HYp.out)⟩) (fun hHeld => ?_)
                    clear hK K hb
                    try simp only [Act.put, List.setIfInBounds_toArray, List.set_cons_zero, List.set_cons_succ]
                    refine wpAnyH_done (by kernel_rfl) ?_ _
                    have hpw2 : wrap64 ((p : Int) - 1) = (p : Int) - 1 := IntWalk.wrap64_in _ (by have := hn1; omega)
                    go_wp2_with fail
                    go_roundw
                    case rel =>
                      refine ⟨_, p, rfl, rfl, by have := HQp.out; have := HQ.out; omega, fun k h1 h2 z hz => ?_, HS61.out⟩
                      rcases Nat.lt_or_ge k q with h3 | h3
                      · obtain rfl : k = p := by have := HQp.out; omega
                        rw [HYp.out] at hz
                        rw [← Option.some.inj hz]; exact HNc1.out
                      · exact HFr.out k h3 h2 z hz
                    case measure => simp [intOf]; try omega
        · obtain rfl : i = 0 := by omega
          have HU : Hid (∀ z, (l.take 0).getLast? = some z → GLt z x) := fun z hz => by simp at hz
          have dp : decide ((0 : Int) < ((0 : Nat) : Int)) = false := rfl
          have hpw : IntKind.i64.wrap (((0 : Nat) : Int) - 1) = ((0 : Nat) : Int) - 1 := rfl
          clear hi1
          go_upto_region 6 with (fail)
          refine wp_region_held_drew (S := fun w' => w'.rangeAt w.heap.size 0 (tbCells (.slice (some ⟨g, off, none⟩) l.length cap) (.slice a2 m.length cap2)) ∧ w'.rangeAt g (off + 0 * 4) (grCells x)) (by kernel_rfl) (⟨(fun j v hv => by rw [Nat.zero_add]; exact ((HY.out).drew).at 0 rfl j hv), (elem_rng (HRg.out _ ((HY.out).drew).old) HXi.out)⟩) (fun hHeld => ?_)
          refine wpAnyH_take (i := 0) (oi := { dst := some 23, op := Op.fieldAddr 25 (Operand.tmp 1) 0, type := 0, pos := "ref.go:43", after := #[], guard := none }) (v := ?q401v) rfl (by kernel_rfl) (by kernel_rfl) (by kernel_rfl) (fun _ _ _ h => h) (Or.inl ⟨by rfl, ?q401h⟩) hHeld ?q401r
          case q401h => (intro wq hSw; clear hSw; go_simp; try with_reducible rfl)
          try simp only [Act.put, List.setIfInBounds_toArray, List.set_cons_zero, List.set_cons_succ]
          refine wpAnyH_take (i := 1) (oi := { dst := some 24, op := Op.load 23 (Operand.tmp 23), type := 23, pos := "ref.go:43", after := #[{ on := 0, ground := Ground.data }], guard := none }) (v := .slice (some ⟨g, off, none⟩) l.length cap) rfl (by kernel_rfl) (by kernel_rfl) (by kernel_rfl) (fun _ _ _ h => h) (Or.inl ⟨by rfl, ?q402h⟩) hHeld ?q402r
          case q402h => (intro wq hSw; have lq := (hSw.1) 0 (.slice (some ⟨g, off, none⟩) l.length cap) rfl; simp only [Nat.zero_add] at lq; clear hSw; go_simp; try with_reducible rfl)
          try simp only [Act.put, List.setIfInBounds_toArray, List.set_cons_zero, List.set_cons_succ]
          refine wpAnyH_take (i := 2) (oi := { dst := some 25, op := Op.move (Operand.tmp 3), type := 3, pos := "ref.go:43", after := #[], guard := none }) (v := ?q403v) rfl (by kernel_rfl) (by kernel_rfl) (by kernel_rfl) (fun _ _ _ h => h) (Or.inl ⟨by rfl, ?q403h⟩) hHeld ?q403r
          case q403h => (intro wq hSw; clear hSw; go_simp; try with_reducible rfl)
          try simp only [Act.put, List.setIfInBounds_toArray, List.set_cons_zero, List.set_cons_succ]
          refine wpAnyH_take (i := 3) (oi := { dst := some 26, op := Op.indexAddr 23 (Operand.tmp 24) (Operand.tmp 25), type := 0, pos := "ref.go:43", after := #[{ on := 1, ground := Ground.data }, { on := 2, ground := Ground.data }], guard := none }) (v := ?q404v) rfl (by kernel_rfl) (by kernel_rfl) (by kernel_rfl) (fun _ _ _ h => h) (Or.inl ⟨by rfl, ?q404h⟩) hHeld ?q404r
          case q404h => (intro wq hSw; clear hSw; go_simp; try with_reducible rfl)
          try simp only [Act.put, List.setIfInBounds_toArray, List.set_cons_zero, List.set_cons_succ]
          refine wpAnyH_take (i := 4) (oi := { dst := some 27, op := Op.load 29 (Operand.tmp 26), type := 29, pos := "ref.go:43", after := #[{ on := 3, ground := Ground.data }], guard := none }) rfl (by kernel_rfl) (by kernel_rfl) (by kernel_rfl) (fun _ _ _ h => h) (yieldsIf_load_mid (by rfl) 29 (.tmp 26) rfl g (off + 0 * 4) rfl (grCells x) _ (fun _ h => h.2) HUG.out rfl (info_gr)) hHeld ?_
          try simp only [Act.put, List.setIfInBounds_toArray, List.set_cons_zero, List.set_cons_succ]
          refine wpAnyH_ready (rs := [5]) (by kernel_rfl) (by simp) ?_
          refine AllReadyH.cons (o := { dst := some 28, op := Op.call { callee := Callee.value (Operand.func 49), args := #[Operand.tmp 27], argTypes := #[29] }, type := 4, pos := "ref.go:43", after := #[{ on := 4, ground := Ground.data }], guard := none }) rfl (fun K hK => ?_) (AllReadyH.nil)
          go_simp
          go_wp2_with (go_at_call 49; refine (HGr.out _).mono ?_; rintro e w21 ⟨rfl, hb⟩)
          have HS21 : Hid (Hp w [.ob (w.heap.size) 25 (tbCells (.slice (some ⟨g, off, none⟩) l.length cap) (.slice a2 m.length cap2))] w21) := ((HY.out).drew).calls hb
          refine hK.out _ _ (⟨(fun j v hv => by rw [Nat.zero_add]; exact (HS21.out).at 0 rfl j hv), (elem_rng (HRg.out _ (HS21.out).old) HXi.out)⟩) (fun hHeld => ?_)
          clear hK K hb
          try simp only [Act.put, List.setIfInBounds_toArray, List.set_cons_zero, List.set_cons_succ]
          refine wpAnyH_take (i := 6) (oi := { dst := some 29, op := Op.unOp UnOp.not 4 (Operand.tmp 28), type := 4, pos := "ref.go:43", after := #[{ on := 5, ground := Ground.data }], guard := none }) (v := ?q406v) rfl (by kernel_rfl) (by kernel_rfl) (by kernel_rfl) (fun _ _ _ h => h) (Or.inl ⟨by rfl, ?q406h⟩) hHeld ?q406r
          case q406h => (intro wq hSw; clear hSw; go_simp; try with_reducible rfl)
          try simp only [Act.put, List.setIfInBounds_toArray, List.set_cons_zero, List.set_cons_succ]
          refine wpAnyH_take (i := 7) (oi := { dst := some 30, op := Op.move (Operand.tmp 29), type := 4, pos := "ref.go:43", after := #[{ on := 6, ground := Ground.data }, { on := 5, ground := Ground.chain }], guard := none }) (v := ?q407v) rfl (by kernel_rfl) (by kernel_rfl) (by kernel_rfl) (fun _ _ _ h => h) (Or.inl ⟨by rfl, ?q407h⟩) hHeld ?q407r
          case q407h => (intro wq hSw; clear hSw; go_simp; try with_reducible rfl)
          try simp only [Act.put, List.setIfInBounds_toArray, List.set_cons_zero, List.set_cons_succ]
          refine wpAnyH_take (i := 8) (oi := { dst := some 31, op := Op.move (Operand.tmp 3), type := 3, pos := "ref.go:43", after := #[{ on := 7, ground := Ground.guard }], guard := some (7, false) }) (v := ?q408v) rfl (by kernel_rfl) (by kernel_rfl) (by kernel_rfl) (fun _ _ _ h => h) (Or.inl ⟨by rfl, ?q408h⟩) hHeld ?q408r
          case q408h => (intro wq hSw; clear hSw; go_simp; try with_reducible rfl)
          try simp only [Act.put, List.setIfInBounds_toArray, List.set_cons_zero, List.set_cons_succ]
          refine wpAnyH_take (i := 9) (oi := { dst := some 32, op := Op.binOp BinOp.gtr 3 (Operand.tmp 31) (Operand.const (Value.int IntKind.i64 0)) 3, type := 4, pos := "ref.go:43", after := #[{ on := 8, ground := Ground.data }, { on := 7, ground := Ground.guard }], guard := some (7, false) }) (v := .bool false) rfl (by kernel_rfl) (by kernel_rfl) (by kernel_rfl) (fun _ _ _ h => h) (Or.inl ⟨by rfl, ?q409h⟩) hHeld ?q409r
          case q409h => (intro wq hSw; clear hSw; go_simp; try with_reducible rfl)
          try simp only [Act.put, List.setIfInBounds_toArray, List.set_cons_zero, List.set_cons_succ]
          refine wpAnyH_take (i := 10) (oi := { dst := some 33, op := Op.move (Operand.tmp 32), type := 4, pos := "ref.go:43", after := #[{ on := 9, ground := Ground.data }, { on := 7, ground := Ground.chain }, { on := 7, ground := Ground.guard }], guard := some (7, false) }) (v := ?q410v) rfl (by kernel_rfl) (by kernel_rfl) (by kernel_rfl) (fun _ _ _ h => h) (Or.inl ⟨by rfl, ?q410h⟩) hHeld ?q410r
          case q410h => (intro wq hSw; clear hSw; go_simp; try with_reducible rfl)
          try simp only [Act.put, List.setIfInBounds_toArray, List.set_cons_zero, List.set_cons_succ]
          refine wpAnyH_take (i := 11) (oi := { dst := some 34, op := Op.fieldAddr 25 (Operand.tmp 1) 0, type := 0, pos := "ref.go:43", after := #[{ on := 10, ground := Ground.guard }], guard := some (10, true) }) (v := undef) rfl (by kernel_rfl) (by kernel_rfl) (by kernel_rfl) (fun _ _ _ h => h) (Or.inr ⟨by rfl, rfl⟩) hHeld ?_
          try simp only [Act.put, List.setIfInBounds_toArray, List.set_cons_zero, List.set_cons_succ]
          refine wpAnyH_take (i := 12) (oi := { dst := some 35, op := Op.load 23 (Operand.tmp 34), type := 23, pos := "ref.go:43", after := #[{ on := 11, ground := Ground.data }, { on := 10, ground := Ground.guard }], guard := some (10, true) }) (v := undef) rfl (by kernel_rfl) (by kernel_rfl) (by kernel_rfl) (fun _ _ _ h => h) (Or.inr ⟨by rfl, rfl⟩) hHeld ?_
          try simp only [Act.put, List.setIfInBounds_toArray, List.set_cons_zero, List.set_cons_succ]
          refine wpAnyH_take (i := 13) (oi := { dst := some 36, op := Op.move (Operand.tmp 3), type := 3, pos := "ref.go:43", after := #[{ on := 10, ground := Ground.guard }], guard := some (10, true) }) (v := undef) rfl (by kernel_rfl) (by kernel_rfl) (by kernel_rfl) (fun _ _ _ h => h) (Or.inr ⟨by rfl, rfl⟩) hHeld ?_
          try simp only [Act.put, List.setIfInBounds_toArray, List.set_cons_zero, List.set_cons_succ]
          refine wpAnyH_take (i := 14) (oi := { dst := some 37, op := Op.binOp BinOp.sub 3 (Operand.tmp 36) (Operand.const (Value.int IntKind.i64 1)) 3, type := 3, pos := "ref.go:43", after := #[{ on := 13, ground := Ground.data }, { on := 10, ground := Ground.guard }], guard := some (10, true) }) (v := undef) rfl (by kernel_rfl) (by kernel_rfl) (by kernel_rfl) (fun _ _ _ h => h) (Or.inr ⟨by rfl, rfl⟩) hHeld ?_
          try simp only [Act.put, List.setIfInBounds_toArray, List.set_cons_zero, List.set_cons_succ]
          refine wpAnyH_take (i := 15) (oi := { dst := some 38, op := Op.indexAddr 23 (Operand.tmp 35) (Operand.tmp 37), type := 0, pos := "ref.go:43", after := #[{ on := 12, ground := Ground.data }, { on := 14, ground := Ground.data }, { on := 10, ground := Ground.guard }], guard := some (10, true) }) (v := undef) rfl (by kernel_rfl) (by kernel_rfl) (by kernel_rfl) (fun _ _ _ h => h) (Or.inr ⟨by rfl, rfl⟩) hHeld ?_
          try simp only [Act.put, List.setIfInBounds_toArray, List.set_cons_zero, List.set_cons_succ]
          refine wpAnyH_take (i := 16) (oi := { dst := some 39, op := Op.load 29 (Operand.tmp 38), type := 29, pos := "ref.go:43", after := #[{ on := 15, ground := Ground.data }, { on := 10, ground := Ground.guard }], guard := some (10, true) }) (v := undef) rfl (by kernel_rfl) (by kernel_rfl) (by kernel_rfl) (fun _ _ _ h => h) (Or.inr ⟨by rfl, rfl⟩) hHeld ?_
          try simp only [Act.put, List.setIfInBounds_toArray, List.set_cons_zero, List.set_cons_succ]
          refine wpAnyH_take (i := 17) (oi := { dst := some 40, op := Op.fieldAddr 25 (Operand.tmp 1) 0, type := 0, pos := "ref.go:43", after := #[{ on := 10, ground := Ground.guard }], guard := some (10, true) }) (v := undef) rfl (by kernel_rfl) (by kernel_rfl) (by kernel_rfl) (fun _ _ _ h => h) (Or.inr ⟨by rfl, rfl⟩) hHeld ?_
          try simp only [Act.put, List.setIfInBounds_toArray, List.set_cons_zero, List.set_cons_succ]
          refine wpAnyH_take (i := 18) (oi := { dst := some 41, op := Op.load 23 (Operand.tmp 40), type := 23, pos := "ref.go:43", after := #[{ on := 17, ground := Ground.data }, { on := 10, ground := Ground.guard }], guard := some (10, true) }) (v := undef) rfl (by kernel_rfl) (by kernel_rfl) (by kernel_rfl) (fun _ _ _ h => h) (Or.inr ⟨by rfl, rfl⟩) hHeld ?_
          try simp only [Act.put, List.setIfInBounds_toArray, List.set_cons_zero, List.set_cons_succ]
          refine wpAnyH_take (i := 19) (oi := { dst := some 42, op := Op.move (Operand.tmp 3), type := 3, pos := "ref.go:43", after := #[{ on := 10, ground := Ground.guard }], guard := some (10, true) }) (v := undef) rfl (by kernel_rfl) (by kernel_rfl) (by kernel_rfl) (fun _ _ _ h => h) (Or.inr ⟨by rfl, rfl⟩) hHeld ?_
          try simp only [Act.put, List.setIfInBounds_toArray, List.set_cons_zero, List.set_cons_succ]
          refine wpAnyH_take (i := 20) (oi := { dst := some 43, op := Op.indexAddr 23 (Operand.tmp 41) (Operand.tmp 42), type := 0, pos := "ref.go:43", after := #[{ on := 18, ground := Ground.data }, { on := 19, ground := Ground.data }, { on := 10, ground := Ground.guard }], guard := some (10, true) }) (v := undef) rfl (by kernel_rfl) (by kernel_rfl) (by kernel_rfl) (fun _ _ _ h => h) (Or.inr ⟨by rfl, rfl⟩) hHeld ?_
          try simp only [Act.put, List.setIfInBounds_toArray, List.set_cons_zero, List.set_cons_succ]
          refine wpAnyH_take (i := 21) (oi := { dst := some 44, op := Op.load 29 (Operand.tmp 43), type := 29, pos := "ref.go:43", after := #[{ on := 20, ground := Ground.data }, { on := 10, ground := Ground.guard }], guard := some (10, true) }) (v := undef) rfl (by kernel_rfl) (by kernel_rfl) (by kernel_rfl) (fun _ _ _ h => h) (Or.inr ⟨by rfl, rfl⟩) hHeld ?_
          try simp only [Act.put, List.setIfInBounds_toArray, List.set_cons_zero, List.set_cons_succ]
          refine wpAnyH_ready (rs := [22]) (by kernel_rfl) (by simp) ?_
          refine AllReadyH.cons (o := { dst := some 45, op := Op.call { callee := Callee.value (Operand.func 50), args := #[Operand.tmp 39, Operand.tmp 44], argTypes := #[29, 29] }, type := 4, pos := "ref.go:43", after := #[{ on := 16, ground := Ground.data }, { on := 21, ground := Ground.data }, { on := 10, ground := Ground.chain }, { on := 10, ground := Ground.guard }], guard := some (10, true) }) rfl (fun K hK => ?_) (AllReadyH.nil)
          rw [if_neg (by exact Bool.false_ne_true)]
          have HS22 : Hid (Hp w [.ob (w.heap.size) 25 (tbCells (.slice (some ⟨g, off, none⟩) l.length cap) (.slice a2 m.length cap2))] w21) := HS21.out
          refine hK.out _ _ (⟨(fun j v hv => by rw [Nat.zero_add]; exact (HS22.out).at 0 rfl j hv), (elem_rng (HRg.out _ (HS22.out).old) HXi.out)⟩) (fun hHeld => ?_)
          clear hK K
          try simp only [Act.put, List.setIfInBounds_toArray, List.set_cons_zero, List.set_cons_succ]
          refine wpAnyH_take (i := 23) (oi := { dst := some 46, op := Op.unOp UnOp.not 4 (Operand.tmp 45), type := 4, pos := "ref.go:43", after := #[{ on := 22, ground := Ground.data }, { on := 10, ground := Ground.guard }], guard := some (10, true) }) (v := undef) rfl (by kernel_rfl) (by kernel_rfl) (by kernel_rfl) (fun _ _ _ h => h) (Or.inr ⟨by rfl, rfl⟩) hHeld ?_
          try simp only [Act.put, List.setIfInBounds_toArray, List.set_cons_zero, List.set_cons_succ]
          refine wpAnyH_take (i := 24) (oi := { dst := some 47, op := Op.pick (Operand.tmp 33) (Operand.tmp 46) (Operand.const (Value.bool false)), type := 4, pos := "ref.go:43", after := #[{ on := 10, ground := Ground.data }, { on := 23, ground := Ground.data }, { on := 7, ground := Ground.guard }], guard := some (7, false) }) (v := ?q423v) rfl (by kernel_rfl) (by kernel_rfl) (by kernel_rfl) (fun _ _ _ h => h) (Or.inl ⟨by rfl, ?q423h⟩) hHeld ?q423r
          case q423h => (intro wq hSw; clear hSw; go_simp; try with_reducible rfl)
          try simp only [Act.put, List.setIfInBounds_toArray, List.set_cons_zero, List.set_cons_succ]
          refine wpAnyH_take (i := 25) (oi := { dst := some 48, op := Op.pick (Operand.tmp 30) (Operand.const (Value.bool true)) (Operand.tmp 47), type := 4, pos := "ref.go:43", after := #[{ on := 7, ground := Ground.data }, { on := 24, ground := Ground.data }], guard := none }) (v := ?q424v) rfl (by kernel_rfl) (by kernel_rfl) (by kernel_rfl) (fun _ _ _ h => h) (Or.inl ⟨by rfl, ?q424h⟩) hHeld ?q424r
          case q424h => (intro wq hSw; clear hSw; go_simp; try with_reducible rfl)
          try simp only [Act.put, List.setIfInBounds_toArray, List.set_cons_zero, List.set_cons_succ]
          refine wpAnyH_done (by kernel_rfl) ?_ _
          go_wp2_with fail
          go_loopw [4] (fun kv wq => ∃ (c : Int) (q : Nat), kv = .int .i64 c ∧ c = (q : Int) - 1 ∧ q ≤ 0 ∧ (∀ k, q ≤ k → k < 0 → ∀ z, l[k]? = some z → ¬ Conf z x) ∧ Hp w [.ob w.heap.size 25 (tbCells (.slice (some ⟨g, off, none⟩) l.length cap) (.slice a2 m.length cap2))] wq) (fun kv _ => (intOf kv + 1).toNat)
          case atStart => exact ⟨_, 0, rfl, (by first | rfl | (have := HIp.out; omega)), Nat.le_refl _, fun k h1 h2 => absurd h2 (by omega), HS22.out⟩
          case round =>
            obtain ⟨c, q, rfl, hc, hq, hfr, hs⟩ := hrel
            clear b0 HY
            have HY := Lib.hid hs
            have HFr := Lib.hid hfr
            have HQ := Lib.hid hq
            have HC := Lib.hid hc
            have b0 : wr.cell? ⟨w.heap.size, 0, none⟩ = some (.slice (some ⟨g, off, none⟩) l.length cap) := hs.at 0 rfl 0 rfl
            clear hs hfr HS22
            by_cases hq0 : q = 0
            · obtain rfl : c = -1 := by omega
              have HAll : Hid (∀ z ∈ l.take 0, ¬ Conf z x) := Lib.hid (apart_all (by have := HFr.out; rwa [hq0] at this))
              clear hq0 hc hq HFr HQ HC
              go_wp2_with fail
              go_quiet (fail)
              have HY2 := Lib.hid (HY.out.drewN nq)
              clear b0 HY
              generalize wr.drewN nq = w2 at *
              go_wp2_with fail
              go_roundw
              case rel => exact ⟨0 + 1, HLt.out, by go_num, by rw [lk_take_snoc HXi.out]; exact held_snoc HH.out HOk1.out HU.out HAll.out, HY2.out⟩
              case measure => simp [intOf]; try (have := HLt.out; omega)
            · obtain ⟨p, hqp⟩ : ∃ p, q = p + 1 := ⟨q - 1, by omega⟩
              obtain rfl : c = (p : Int) := by omega
              have HQp := Lib.hid hqp
              obtain ⟨y, hy⟩ : ∃ y, l[p]? = some y := ⟨_, List.getElem?_eq_getElem (by have := HLt.out; omega)⟩
              have HYp := Lib.hid hy
              have hpi : (p : Int) < (l.length : Int) := by have := HLt.out; omega
              have hp0 : (0 : Int) ≤ (p : Int) := by omega
              have HGy := Lib.hid (HGe.out y (List.mem_of_getElem? hy))
              have cy0 : wr.cell? ⟨g, off + p * 4 + 1, none⟩ = some (.int .i64 y.page) := HRg.out wr HY.out.old (p * 4 + 1) _ (grRow_at l p y hy 1 _ rfl)
              have cy1 : wr.cell? ⟨g, off + p * 4 + 2, none⟩ = some (.int .i64 y.slot) := HRg.out wr HY.out.old (p * 4 + 2) _ (grRow_at l p y hy 2 _ rfl)
              have cx0 : wr.cell? ⟨g, off + 0 * 4 + 1, none⟩ = some (.int .i64 x.page) := HRg.out wr HY.out.old (0 * 4 + 1) _ (grRow_at l 0 x HXi.out 1 _ rfl)
              have cx1 : wr.cell? ⟨g, off + 0 * 4 + 2, none⟩ = some (.int .i64 x.slot) := HRg.out wr HY.out.old (0 * 4 + 2) _ (grRow_at l 0 x HXi.out 2 _ rfl)
              have hqe : ∀ W, Sem.run Try.prog (binOp .eql 27 (.agg #[.int .i64 y.page, .int .i64 y.slot]) (.agg #[.int .i64 x.page, .int .i64 x.slot])) W = .ok (.bool (sameV y.lock x.lock)) W := fun W => run_eql (equal_lk y.lock x.lock HGy.out.lock HGx.out.lock) W
              have hss : sameV y.lock x.lock = (decide (y.page = x.page) && decide (y.slot = x.slot)) := lock_same y x.lock
              have HCf : Hid (∀ W, Calls Try.prog 34 #[.agg (grCells y).toArray, .agg (grCells x).toArray] W fun e w' => e = .returned (.bool (confB y x)) ∧ Below W.heap.size W w') := fun W => rconflict_any y x W HGy.out HGx.out
              clear hqp hy hq hq0 hc
              cases hsv : sameV y.lock x.lock
              · have HAll : Hid (∀ z ∈ l.take 0, ¬ Conf z x) := Lib.hid (apart_below HH.out HXi.out HQp.out HQ.out HYp.out HU.out (by rw [hsv] at hss; intro h; simp [h.1, h.2] at hss) HFr.out)
                rw [hsv] at hqe
                clear hss hsv
                go_wp2_with fail
                go_quiet (fail)
                have HY2 := Lib.hid (HY.out.drewN nq)
                clear b0 cy0 cy1 cx0 cx1 HY HCf hqe
                generalize wr.drewN nq = w2 at *
                go_wp2_with fail
                go_roundw
                case rel => exact ⟨0 + 1, HLt.out, by go_num, by rw [lk_take_snoc HXi.out]; exact held_snoc HH.out HOk1.out HU.out HAll.out, HY2.out⟩
                case measure => simp [intOf]; try (have := HLt.out; omega)
              · rw [hsv] at hqe
                clear hss hsv
                go_wp2_with fail
                go_quiet (fail)
                have HY2 := Lib.hid (HY.out.drewN nq)
                clear b0 cy0 cy1 cx0 cx1 HY hqe
                generalize wr.drewN nq = w2 at *
                have hNx := HNc.out 0 p x y HXi.out (by have := HQp.out; have := HQ.out; omega) HYp.out
                have HCi := Lib.hid (@confB_iff y x)
                generalize confB y x = cb at *
                go_wp2_with fail
                cases cb
                case true =>
                  have HX := Lib.hid (hNx rfl)
                  clear hNx HCi
                  refine wp_region_held_drew (S := fun w' => w'.rangeAt w.heap.size 0 (tbCells (.slice (some ⟨g, off, none⟩) l.length cap) (.slice a2 m.length cap2)) ∧ w'.rangeAt g (off + 0 * 4) (grCells x) ∧ w'.rangeAt g (off + p * 4) (grCells y)) (by kernel_rfl) (⟨(fun j v hv => by rw [Nat.zero_add]; exact ((HY2.out).drew).at 0 rfl j hv), (elem_rng (HRg.out _ ((HY2.out).drew).old) HXi.out), (elem_rng (HRg.out _ ((HY2.out).drew).old) HYp.out)⟩) (fun hHeld => ?_)
                  refine wpAnyH_take (i := 0) (oi := { dst := some 70, op := Op.fieldAddr 25 (Operand.tmp 1) 0, type := 0, pos := "ref.go:47", after := #[], guard := none }) (v := ?q485v) rfl (by kernel_rfl) (by kernel_rfl) (by kernel_rfl) (fun _ _ _ h => h) (Or.inl ⟨by rfl, ?q485h⟩) hHeld ?q485r
                  case q485h => (intro wq hSw; clear hSw; go_simp; try with_reducible rfl)
                  try simp only [Act.put, List.setIfInBounds_toArray, List.set_cons_zero, List.set_cons_succ]
                  refine wpAnyH_take (i := 1) (oi := { dst := some 71, op := Op.load 23 (Operand.tmp 70), type := 23, pos := "ref.go:47", after := #[{ on := 0, ground := Ground.data }], guard := none }) (v := .slice (some ⟨g, off, none⟩) l.length cap) rfl (by kernel_rfl) (by kernel_rfl) (by kernel_rfl) (fun _ _ _ h => h) (Or.inl ⟨by rfl, ?q486h⟩) hHeld ?q486r
                  case q486h => (intro wq hSw; have lq := (hSw.1) 0 (.slice (some ⟨g, off, none⟩) l.length cap) rfl; simp only [Nat.zero_add] at lq; clear hSw; go_simp; try with_reducible rfl)
                  try simp only [Act.put, List.setIfInBounds_toArray, List.set_cons_zero, List.set_cons_succ]
                  refine wpAnyH_take (i := 2) (oi := { dst := some 72, op := Op.move (Operand.tmp 4), type := 3, pos := "ref.go:47", after := #[], guard := none }) (v := ?q487v) rfl (by kernel_rfl) (by kernel_rfl) (by kernel_rfl) (fun _ _ _ h => h) (Or.inl ⟨by rfl, ?q487h⟩) hHeld ?q487r
                  case q487h => (intro wq hSw; clear hSw; go_simp; try with_reducible rfl)
                  try simp only [Act.put, List.setIfInBounds_toArray, List.set_cons_zero, List.set_cons_succ]
                  refine wpAnyH_take (i := 3) (oi := { dst := some 73, op := Op.indexAddr 23 (Operand.tmp 71) (Operand.tmp 72), type := 0, pos := "ref.go:47", after := #[{ on := 1, ground := Ground.data }, { on := 2, ground := Ground.data }], guard := none }) (v := ?q488v) rfl (by kernel_rfl) (by kernel_rfl) (by kernel_rfl) (fun _ _ _ h => h) (Or.inl ⟨by rfl, ?q488h⟩) hHeld ?q488r
                  case q488h => (intro wq hSw; clear hSw; go_simp; try with_reducible rfl)
                  try simp only [Act.put, List.setIfInBounds_toArray, List.set_cons_zero, List.set_cons_succ]
                  refine wpAnyH_take (i := 4) (oi := { dst := some 74, op := Op.load 29 (Operand.tmp 73), type := 29, pos := "ref.go:47", after := #[{ on := 3, ground := Ground.data }], guard := none }) rfl (by kernel_rfl) (by kernel_rfl) (by kernel_rfl) (fun _ _ _ h => h) (yieldsIf_load_mid (by rfl) 29 (.tmp 73) rfl g (off + p * 4) rfl (grCells y) _ (fun _ h => h.2.2) HUG.out rfl (info_gr)) hHeld ?_
                  try simp only [Act.put, List.setIfInBounds_toArray, List.set_cons_zero, List.set_cons_succ]
                  refine wpAnyH_take (i := 5) (oi := { dst := some 75, op := Op.fieldAddr 25 (Operand.tmp 1) 0, type := 0, pos := "ref.go:47", after := #[], guard := none }) (v := ?q490v) rfl (by kernel_rfl) (by kernel_rfl) (by kernel_rfl) (fun _ _ _ h => h) (Or.inl ⟨by rfl, ?q490h⟩) hHeld ?q490r
                  case q490h => (intro wq hSw; clear hSw; go_simp; try with_reducible rfl)
                  try simp only [Act.put, List.setIfInBounds_toArray, List.set_cons_zero, List.set_cons_succ]
                  refine wpAnyH_take (i := 6) (oi := { dst := some 76, op := Op.load 23 (Operand.tmp 75), type := 23, pos := "ref.go:47", after := #[{ on := 5, ground := Ground.data }], guard := none }) (v := .slice (some ⟨g, off, none⟩) l.length cap) rfl (by kernel_rfl) (by kernel_rfl) (by kernel_rfl) (fun _ _ _ h => h) (Or.inl ⟨by rfl, ?q491h⟩) hHeld ?q491r
                  case q491h => (intro wq hSw; have lq := (hSw.1) 0 (.slice (some ⟨g, off, none⟩) l.length cap) rfl; simp only [Nat.zero_add] at lq; clear hSw; go_simp; try with_reducible rfl)
                  try simp only [Act.put, List.setIfInBounds_toArray, List.set_cons_zero, List.set_cons_succ]
                  refine wpAnyH_take (i := 7) (oi := { dst := some 77, op := Op.move (Operand.tmp 3), type := 3, pos := "ref.go:47", after := #[], guard := none }) (v := ?q492v) rfl (by kernel_rfl) (by kernel_rfl) (by kernel_rfl) (fun _ _ _ h => h) (Or.inl ⟨by rfl, ?q492h⟩) hHeld ?q492r
                  case q492h => (intro wq hSw; clear hSw; go_simp; try with_reducible rfl)
                  try simp only [Act.put, List.setIfInBounds_toArray, List.set_cons_zero, List.set_cons_succ]
                  refine wpAnyH_take (i := 8) (oi := { dst := some 78, op := Op.indexAddr 23 (Operand.tmp 76) (Operand.tmp 77), type := 0, pos := "ref.go:47", after := #[{ on := 6, ground := Ground.data }, { on := 7, ground := Ground.data }], guard := none }) (v := ?q493v) rfl (by kernel_rfl) (by kernel_rfl) (by kernel_rfl) (fun _ _ _ h => h) (Or.inl ⟨by rfl, ?q493h⟩) hHeld ?q493r
                  case q493h => (intro wq hSw; clear hSw; go_simp; try with_reducible rfl)
                  try simp only [Act.put, List.setIfInBounds_toArray, List.set_cons_zero, List.set_cons_succ]
                  refine wpAnyH_take (i := 9) (oi := { dst := some 79, op := Op.load 29 (Operand.tmp 78), type := 29, pos := "ref.go:47", after := #[{ on := 8, ground := Ground.data }], guard := none }) rfl (by kernel_rfl) (by kernel_rfl) (by kernel_rfl) (fun _ _ _ h => h) (yieldsIf_load_mid (by rfl) 29 (.tmp 78) rfl g (off + 0 * 4) rfl (grCells x) _ (fun _ h => h.2.1) HUG.out rfl (info_gr)) hHeld ?_
                  try simp only [Act.put, List.setIfInBounds_toArray, List.set_cons_zero, List.set_cons_succ]
                  refine wpAnyH_ready (rs := [10]) (by kernel_rfl) (by simp) ?_
                  refine AllReadyH.cons (o := { dst := some 80, op := Op.call { callee := Callee.value (Operand.func 34), args := #[Operand.tmp 74, Operand.tmp 79], argTypes := #[29, 29] }, type := 4, pos := "ref.go:47", after := #[{ on := 4, ground := Ground.data }, { on := 9, ground := Ground.data }], guard := none }) rfl (fun K hK => ?_) (AllReadyH.nil)
                  go_simp
                  go_wp2_with (go_at_call 34; refine (HCf.out _).mono ?_; rintro e w61 ⟨rfl, hb⟩)
                  have HS61 : Hid (Hp w [.ob (w.heap.size) 25 (tbCells (.slice (some ⟨g, off, none⟩) l.length cap) (.slice a2 m.length cap2))] w61) := ((HY2.out).drew).calls hb
                  refine hK.out _ _ (⟨(fun j v hv => by rw [Nat.zero_add]; exact (HS61.out).at 0 rfl j hv), (elem_rng (HRg.out _ (HS61.out).old) HXi.out), (elem_rng (HRg.out _ (HS61.out).old) HYp.out)⟩) (fun hHeld => ?_)
                  clear hK K hb
                  try simp only [Act.put, List.setIfInBounds_toArray, List.set_cons_zero, List.set_cons_succ]
                  refine wpAnyH_done (by kernel_rfl) ?_ _
                  go_wp2_with fail
                  go_ret
                  exact ⟨by rw [HX.out]; rfl, HS61.out.old⟩
                case false =>
                  have HNc1 : Hid (¬ Conf y x) := Lib.hid (fun h => by have := HCi.out.2 h; cases this)
                  clear hNx HCi
                  refine wp_region_held_drew (S := fun w' => w'.rangeAt w.heap.size 0 (tbCells (.slice (some ⟨g, off, none⟩) l.length cap) (.slice a2 m.length cap2)) ∧ w'.rangeAt g (off + 0 * 4) (grCells x) ∧ w'.rangeAt g (off + p * 4) (grCells y)) (by kernel_rfl) (⟨(fun j v hv => by rw [Nat.zero_add]; exact ((HY2.out).drew).at 0 rfl j hv), (elem_rng (HRg.out _ ((HY2.out).drew).old) HXi.out), (elem_rng (HRg.out _ ((HY2.out).drew).old) HYp.out)⟩) (fun hHeld => ?_)
                  refine wpAnyH_take (i := 0) (oi := { dst := some 70, op := Op.fieldAddr 25 (Operand.tmp 1) 0, type := 0, pos := "ref.go:47", after := #[], guard := none }) (v := ?q475v) rfl (by kernel_rfl) (by kernel_rfl) (by kernel_rfl) (fun _ _ _ h => h) (Or.inl ⟨by rfl, ?q475h⟩) hHeld ?q475r
                  case q475h => (intro wq hSw; clear hSw; go_simp; try with_reducible rfl)
                  try simp only [Act.put, List.setIfInBounds_toArray, List.set_cons_zero, List.set_cons_succ]
                  refine wpAnyH_take (i := 1) (oi := { dst := some 71, op := Op.load 23 (Operand.tmp 70), type := 23, pos := "ref.go:47", after := #[{ on := 0, ground := Ground.data }], guard := none }) (v := .slice (some ⟨g, off, none⟩) l.length cap) rfl (by kernel_rfl) (by kernel_rfl) (by kernel_rfl) (fun _ _ _ h => h) (Or.inl ⟨by rfl, ?q476h⟩) hHeld ?q476r
                  case q476h => (intro wq hSw; have lq := (hSw.1) 0 (.slice (some ⟨g, off, none⟩) l.length cap) rfl; simp only [Nat.zero_add] at lq; clear hSw; go_simp; try with_reducible rfl)
                  try simp only [Act.put, List.setIfInBounds_toArray, List.set_cons_zero, List.set_cons_succ]
                  refine wpAnyH_take (i := 2) (oi := { dst := some 72, op := Op.move (Operand.tmp 4), type := 3, pos := "ref.go:47", after := #[], guard := none }) (v := ?q477v) rfl (by kernel_rfl) (by kernel_rfl) (by kernel_rfl) (fun _ _ _ h => h) (Or.inl ⟨by rfl, ?q477h⟩) hHeld ?q477r
                  case q477h => (intro wq hSw; clear hSw; go_simp; try with_reducible rfl)
                  try simp only [Act.put, List.setIfInBounds_toArray, List.set_cons_zero, List.set_cons_succ]
                  refine wpAnyH_take (i := 3) (oi := { dst := some 73, op := Op.indexAddr 23 (Operand.tmp 71) (Operand.tmp 72), type := 0, pos := "ref.go:47", after := #[{ on := 1, ground := Ground.data }, { on := 2, ground := Ground.data }], guard := none }) (v := ?q478v) rfl (by kernel_rfl) (by kernel_rfl) (by kernel_rfl) (fun _ _ _ h => h) (Or.inl ⟨by rfl, ?q478h⟩) hHeld ?q478r
                  case q478h => (intro wq hSw; clear hSw; go_simp; try with_reducible rfl)
                  try simp only [Act.put, List.setIfInBounds_toArray, List.set_cons_zero, List.set_cons_succ]
                  refine wpAnyH_take (i := 4) (oi := { dst := some 74, op := Op.load 29 (Operand.tmp 73), type := 29, pos := "ref.go:47", after := #[{ on := 3, ground := Ground.data }], guard := none }) rfl (by kernel_rfl) (by kernel_rfl) (by kernel_rfl) (fun _ _ _ h => h) (yieldsIf_load_mid (by rfl) 29 (.tmp 73) rfl g (off + p * 4) rfl (grCells y) _ (fun _ h => h.2.2) HUG.out rfl (info_gr)) hHeld ?_
                  try simp only [Act.put, List.setIfInBounds_toArray, List.set_cons_zero, List.set_cons_succ]
                  refine wpAnyH_take (i := 5) (oi := { dst := some 75, op := Op.fieldAddr 25 (Operand.tmp 1) 0, type := 0, pos := "ref.go:47", after := #[], guard := none }) (v := ?q480v) rfl (by kernel_rfl) (by kernel_rfl) (by kernel_rfl) (fun _ _ _ h => h) (Or.inl ⟨by rfl, ?q480h⟩) hHeld ?q480r
                  case q480h => (intro wq hSw; clear hSw; go_simp; try with_reducible rfl)
                  try simp only [Act.put, List.setIfInBounds_toArray, List.set_cons_zero, List.set_cons_succ]
                  refine wpAnyH_take (i := 6) (oi := { dst := some 76, op := Op.load 23 (Operand.tmp 75), type := 23, pos := "ref.go:47", after := #[{ on := 5, ground := Ground.data }], guard := none }) (v := .slice (some ⟨g, off, none⟩) l.length cap) rfl (by kernel_rfl) (by kernel_rfl) (by kernel_rfl) (fun _ _ _ h => h) (Or.inl ⟨by rfl, ?q481h⟩) hHeld ?q481r
                  case q481h => (intro wq hSw; have lq := (hSw.1) 0 (.slice (some ⟨g, off, none⟩) l.length cap) rfl; simp only [Nat.zero_add] at lq; clear hSw; go_simp; try with_reducible rfl)
                  try simp only [Act.put, List.setIfInBounds_toArray, List.set_cons_zero, List.set_cons_succ]
                  refine wpAnyH_take (i := 7) (oi := { dst := some 77, op := Op.move (Operand.tmp 3), type := 3, pos := "ref.go:47", after := #[], guard := none }) (v := ?q482v) rfl (by kernel_rfl) (by kernel_rfl) (by kernel_rfl) (fun _ _ _ h => h) (Or.inl ⟨by rfl, ?q482h⟩) hHeld ?q482r
                  case q482h => (intro wq hSw; clear hSw; go_simp; try with_reducible rfl)
                  try simp only [Act.put, List.setIfInBounds_toArray, List.set_cons_zero, List.set_cons_succ]
                  refine wpAnyH_take (i := 8) (oi := { dst := some 78, op := Op.indexAddr 23 (Operand.tmp 76) (Operand.tmp 77), type := 0, pos := "ref.go:47", after := #[{ on := 6, ground := Ground.data }, { on := 7, ground := Ground.data }], guard := none }) (v := ?q483v) rfl (by kernel_rfl) (by kernel_rfl) (by kernel_rfl) (fun _ _ _ h => h) (Or.inl ⟨by rfl, ?q483h⟩) hHeld ?q483r
                  case q483h => (intro wq hSw; clear hSw; go_simp; try with_reducible rfl)
                  try simp only [Act.put, List.setIfInBounds_toArray, List.set_cons_zero, List.set_cons_succ]
                  refine wpAnyH_take (i := 9) (oi := { dst := some 79, op := Op.load 29 (Operand.tmp 78), type := 29, pos := "ref.go:47", after := #[{ on := 8, ground := Ground.data }], guard := none }) rfl (by kernel_rfl) (by kernel_rfl) (by kernel_rfl) (fun _ _ _ h => h) (yieldsIf_load_mid (by rfl) 29 (.tmp 78) rfl g (off + 0 * 4) rfl (grCells x) _ (fun _ h => h.2.1) HUG.out rfl (info_gr)) hHeld ?_
                  try simp only [Act.put, List.setIfInBounds_toArray, List.set_cons_zero, List.set_cons_succ]
                  refine wpAnyH_ready (rs := [10]) (by kernel_rfl) (by simp) ?_
                  refine AllReadyH.cons (o := { dst := some 80, op := Op.call { callee := Callee.value (Operand.func 34), args := #[Operand.tmp 74, Operand.tmp 79], argTypes := #[29, 29] }, type := 4, pos := "ref.go:47", after := #[{ on := 4, ground := Ground.data }, { on := 9, ground := Ground.data }], guard := none }) rfl (fun K hK => ?_) (AllReadyH.nil)
                  go_simp
                  go_wp2_with (go_at_call 34; refine (HCf.out _).mono ?_; rintro e w61 ⟨rfl, hb⟩)
                  have HS61 : Hid (Hp w [.ob (w.heap.size) 25 (tbCells (.slice (some ⟨g, off, none⟩) l.length cap) (.slice a2 m.length cap2))] w61) := ((HY2.out).drew).calls hb
                  refine hK.out _ _ (⟨(fun j v hv => by rw [Nat.zero_add]; exact (HS61.out).at 0 rfl j hv), (elem_rng (HRg.out _ (HS61.out).old) HXi.out), (elem_rng (HRg.out _ (HS61.out).old) HYp.out)⟩) (fun hHeld => ?_)
                  clear hK K hb
                  try simp only [Act.put, List.setIfInBounds_toArray, List.set_cons_zero, List.set_cons_succ]
                  refine wpAnyH_done (by kernel_rfl) ?_ _
                  have hpw2 : wrap64 ((p : Int) - 1) = (p : Int) - 1 := IntWalk.wrap64_in _ (by have := hn1; omega)
                  go_wp2_with fail
                  go_roundw
                  case rel =>
                    refine ⟨_, p, rfl, rfl, by have := HQp.out; have := HQ.out; omega, fun k h1 h2 z hz => ?_, HS61.out⟩
                    rcases Nat.lt_or_ge k q with h3 | h3
                    · obtain rfl : k = p := by have := HQp.out; omega
                      rw [HYp.out] at hz
                      rw [← Option.some.inj hz]; exact HNc1.out
                    · exact HFr.out k h3 h2 z hz
                  case measure => simp [intOf]; try omega
    · obtain rfl : i = l.length := by omega
      have HHl : Hid (HeldOk l) := Lib.hid (by have := HH.out; rwa [List.take_length] at this)
      clear hlt hi HH
      go_wp2_with fail
      clear b0
      go_loopw [5] (fun iv wr => ∃ i : Nat, i ≤ m.length ∧ iv = .int .i64 i ∧ WaitOk l (m.take i) ∧ Hp w [.ob w.heap.size 25 (tbCells (.slice a l.length cap) (.slice a2 m.length cap2))] wr) (fun iv _ => m.length - (intOf iv).toNat)
      case atStart => exact ⟨0, by omega, rfl, waitOk_nil l, HY.out⟩
      case round =>
        clear HY
        obtain ⟨i, hi, rfl, hh, hs⟩ := hrel
        have HY := Lib.hid hs
        have HH := Lib.hid hh
        have b1 : wr.cell? ⟨w.heap.size, 1, none⟩ = some (.slice a2 m.length cap2) := hs.at 0 rfl 1 rfl
        clear hs hh
        by_cases hlt : i < m.length
        · obtain ⟨g, off, rfl, hr⟩ := hg2.out (by omega)
          have HRg := Lib.hid hr
          obtain ⟨x, hx⟩ : ∃ x, m[i]? = some x := ⟨_, List.getElem?_eq_getElem hlt⟩
          have HXi := Lib.hid hx
          have hgx := HGw.out x (List.mem_of_getElem? hx)
          have HGx := Lib.hid hgx
          have HGr : Hid (∀ W, Calls Try.prog 49 #[.agg (grCells x).toArray] W fun e w' => e = .returned (.bool (grOkB x)) ∧ Below W.heap.size W w') := fun W => rgrant_any x W
          have HMx : Hid (∀ W, Below w.heap.size w W → Calls Try.prog 51 #[.agg (tbCells (.slice a l.length cap) (.slice (some ⟨g, off, none⟩) m.length cap2)).toArray, .int .i64 x.tx, .agg (lkCells x.lock).toArray] W fun e w' => e = .returned (.int .i64 (modeR l x.tx x.page x.slot)) ∧ Below W.heap.size W w') := fun W hb => HMd.out W hb x.tx x.lock HGx.out.lock
          have HOx := Lib.hid (@grOkB_iff x)
          have hNx := HWg.out i x hx
          have hNm := HWm.out i x hx
          have hii : (i : Int) < (m.length : Int) := by omega
          have hi0 : (0 : Int) ≤ (i : Int) := by omega
          have HLt := Lib.hid hlt
          have cx0 : wr.cell? ⟨g, off + i * 4, none⟩ = some (.int .i64 x.tx) := HRg.out wr HY.out.old (i * 4 + 0) _ (grRow_at m i x hx 0 _ rfl)
          have cx1 : wr.cell? ⟨g, off + i * 4 + 1, none⟩ = some (.int .i64 x.page) := HRg.out wr HY.out.old (i * 4 + 1) _ (grRow_at m i x hx 1 _ rfl)
          have cx2 : wr.cell? ⟨g, off + i * 4 + 2, none⟩ = some (.int .i64 x.slot) := HRg.out wr HY.out.old (i * 4 + 2) _ (grRow_at m i x hx 2 _ rfl)
          have cx3 : wr.cell? ⟨g, off + i * 4 + 3, none⟩ = some (.int .i64 x.mode) := HRg.out wr HY.out.old (i * 4 + 3) _ (grRow_at m i x hx 3 _ rfl)
          clear hr hgx hi hx HMd
          generalize grOkB x = gb at *
          generalize hme : modeR l x.tx x.page x.slot = md at *
          have HMe := Lib.hid hme
          clear hme
          go_upto_region 17 with (first | ((with_reducible refine wpList_load_at 29 (.tmp 91) g ((off + i * 4)) (grCells x) HUG.out ?_ ?_ ?_ ?_ ?_); (exact rfl); (exact (elem_rng (HRg.out _ (HY.out).old) HXi.out)); (exact rfl); (exact info_gr); simp only [Act.put, List.setIfInBounds_toArray, List.set_cons_zero, List.set_cons_succ]) | ((with_reducible refine wpList_alloc_ob 29 (grCells grNil) ?_ ?_); (exact alloc_gr); simp only [Act.put, List.setIfInBounds_toArray, List.set_cons_zero, List.set_cons_succ]) | ((with_reducible refine wpList_store_ob 29 (.tmp 6) (wr.heap.size) (grCells x) (grCells grNil) 29 ?_ ?_ ?_ ?_ ?_ ?_ ?_); (exact rfl); (exact rfl); (exact ((HY.out).put 29 (grCells grNil)).get 1 rfl); (exact info_gr); (exact rfl); (exact (oneCell_gr _)); skip))
          have HS21 : Hid (Hp w [.ob (w.heap.size) 25 (tbCells (.slice a l.length cap) (.slice (some ⟨g, off, none⟩) m.length cap2)), .ob (wr.heap.size) 29 (grCells x)] ((wr.alloc (.cells (grCells grNil).toArray 29)).setRow (wr.heap.size) (grCells x).toArray)) := ((HY.out).put 29 (grCells grNil)).row 1 rfl (grCells x)
          clear HY
          generalize ((wr.alloc (.cells (grCells grNil).toArray 29)).setRow (wr.heap.size) (grCells x).toArray) = w21 at *
          generalize wr.heap.size = B1 at *
          clear cx0 cx1 cx2 cx3 b1
          cases gb
          case false =>
            have HX := Lib.hid (hNx rfl)
            clear hNx hNm HOx HMx
            refine wp_region_held_drew (S := fun w' => w'.rangeAt w.heap.size 0 (tbCells (.slice a l.length cap) (.slice (some ⟨g, off, none⟩) m.length cap2)) ∧ w'.rangeAt B1 0 (grCells x)) (by kernel_rfl) (⟨(fun j v hv => by rw [Nat.zero_add]; exact ((HS21.out).drew).at 0 rfl j hv), (fun j v hv => by rw [Nat.zero_add]; exact ((HS21.out).drew).at 1 rfl j hv)⟩) (fun hHeld => ?_)
            refine wpAnyH_take (i := 0) (oi := { dst := some 93, op := Op.load 29 (Operand.tmp 6), type := 29, pos := "ref.go:54", after := #[], guard := none }) rfl (by kernel_rfl) (by kernel_rfl) (by kernel_rfl) (fun _ _ _ h => h) (yieldsIf_load_mid (by rfl) 29 (.tmp 6) rfl B1 (0) rfl (grCells x) _ (fun _ h => h.2) HUG.out rfl (info_gr)) hHeld ?_
            try simp only [Act.put, List.setIfInBounds_toArray, List.set_cons_zero, List.set_cons_succ]
            refine wpAnyH_ready (rs := [1]) (by kernel_rfl) (by simp) ?_
            refine AllReadyH.cons (o := { dst := some 94, op := Op.call { callee := Callee.value (Operand.func 49), args := #[Operand.tmp 93], argTypes := #[29] }, type := 4, pos := "ref.go:54", after := #[{ on := 0, ground := Ground.data }], guard := none }) rfl (fun K hK => ?_) (AllReadyH.nil)
            go_simp
            go_wp2_with (go_at_call 49; refine (HGr.out _).mono ?_; rintro e w22 ⟨rfl, hb⟩)
            have HS22 : Hid (Hp w [.ob (w.heap.size) 25 (tbCells (.slice a l.length cap) (.slice (some ⟨g, off, none⟩) m.length cap2)), .ob B1 29 (grCells x)] w22) := ((HS21.out).drew).calls hb
            refine hK.out _ _ (⟨(fun j v hv => by rw [Nat.zero_add]; exact (HS22.out).at 0 rfl j hv), (fun j v hv => by rw [Nat.zero_add]; exact (HS22.out).at 1 rfl j hv)⟩) (fun hHeld => ?_)
            clear hK K hb
            try simp only [Act.put, List.setIfInBounds_toArray, List.set_cons_zero, List.set_cons_succ]
            refine wpAnyH_take (i := 2) (oi := { dst := some 95, op := Op.unOp UnOp.not 4 (Operand.tmp 94), type := 4, pos := "ref.go:54", after := #[{ on := 1, ground := Ground.data }], guard := none }) (v := ?q1002v) rfl (by kernel_rfl) (by kernel_rfl) (by kernel_rfl) (fun _ _ _ h => h) (Or.inl ⟨by rfl, ?q1002h⟩) hHeld ?q1002r
            case q1002h => (intro wq hSw; clear hSw; go_simp; try with_reducible rfl)
            try simp only [Act.put, List.setIfInBounds_toArray, List.set_cons_zero, List.set_cons_succ]
            refine wpAnyH_take (i := 3) (oi := { dst := some 96, op := Op.move (Operand.tmp 95), type := 4, pos := "ref.go:54", after := #[{ on := 2, ground := Ground.data }, { on := 1, ground := Ground.chain }], guard := none }) (v := ?q1003v) rfl (by kernel_rfl) (by kernel_rfl) (by kernel_rfl) (fun _ _ _ h => h) (Or.inl ⟨by rfl, ?q1003h⟩) hHeld ?q1003r
            case q1003h => (intro wq hSw; clear hSw; go_simp; try with_reducible rfl)
            try simp only [Act.put, List.setIfInBounds_toArray, List.set_cons_zero, List.set_cons_succ]
            refine wpAnyH_take (i := 4) (oi := { dst := some 97, op := Op.load 25 (Operand.tmp 1), type := 25, pos := "ref.go:54", after := #[{ on := 3, ground := Ground.guard }], guard := some (3, false) }) (v := undef) rfl (by kernel_rfl) (by kernel_rfl) (by kernel_rfl) (fun _ _ _ h => h) (Or.inr ⟨by rfl, rfl⟩) hHeld ?_
            try simp only [Act.put, List.setIfInBounds_toArray, List.set_cons_zero, List.set_cons_succ]
            refine wpAnyH_take (i := 5) (oi := { dst := some 98, op := Op.fieldAddr 29 (Operand.tmp 6) 0, type := 0, pos := "ref.go:54", after := #[{ on := 3, ground := Ground.guard }], guard := some (3, false) }) (v := undef) rfl (by kernel_rfl) (by kernel_rfl) (by kernel_rfl) (fun _ _ _ h => h) (Or.inr ⟨by rfl, rfl⟩) hHeld ?_
            try simp only [Act.put, List.setIfInBounds_toArray, List.set_cons_zero, List.set_cons_succ]
            refine wpAnyH_take (i := 6) (oi := { dst := some 99, op := Op.load 3 (Operand.tmp 98), type := 3, pos := "ref.go:54", after := #[{ on := 5, ground := Ground.data }, { on := 3, ground := Ground.guard }], guard := some (3, false) }) (v := undef) rfl (by kernel_rfl) (by kernel_rfl) (by kernel_rfl) (fun _ _ _ h => h) (Or.inr ⟨by rfl, rfl⟩) hHeld ?_
            try simp only [Act.put, List.setIfInBounds_toArray, List.set_cons_zero, List.set_cons_succ]
            refine wpAnyH_take (i := 7) (oi := { dst := some 100, op := Op.fieldAddr 29 (Operand.tmp 6) 1, type := 0, pos := "ref.go:54", after := #[{ on := 3, ground := Ground.guard }], guard := some (3, false) }) (v := undef) rfl (by kernel_rfl) (by kernel_rfl) (by kernel_rfl) (fun _ _ _ h => h) (Or.inr ⟨by rfl, rfl⟩) hHeld ?_
            try simp only [Act.put, List.setIfInBounds_toArray, List.set_cons_zero, List.set_cons_succ]
            refine wpAnyH_take (i := 8) (oi := { dst := some 101, op := Op.load 27 (Operand.tmp 100), type := 27, pos := "ref.go:54", after := #[{ on := 7, ground := Ground.data }, { on := 3, ground := Ground.guard }], guard := some (3, false) }) (v := undef) rfl (by kernel_rfl) (by kernel_rfl) (by kernel_rfl) (fun _ _ _ h => h) (Or.inr ⟨by rfl, rfl⟩) hHeld ?_
            try simp only [Act.put, List.setIfInBounds_toArray, List.set_cons_zero, List.set_cons_succ]
            refine wpAnyH_take (i := 10) (oi := { dst := some 103, op := Op.fieldAddr 29 (Operand.tmp 6) 2, type := 0, pos := "ref.go:54", after := #[{ on := 3, ground := Ground.guard }], guard := some (3, false) }) (v := undef) rfl (by kernel_rfl) (by kernel_rfl) (by kernel_rfl) (fun _ _ _ h => h) (Or.inr ⟨by rfl, rfl⟩) hHeld ?_
            try simp only [Act.put, List.setIfInBounds_toArray, List.set_cons_zero, List.set_cons_succ]
            refine wpAnyH_take (i := 11) (oi := { dst := some 104, op := Op.load 3 (Operand.tmp 103), type := 3, pos := "ref.go:54", after := #[{ on := 10, ground := Ground.data }, { on := 3, ground := Ground.guard }], guard := some (3, false) }) (v := undef) rfl (by kernel_rfl) (by kernel_rfl) (by kernel_rfl) (fun _ _ _ h => h) (Or.inr ⟨by rfl, rfl⟩) hHeld ?_
            try simp only [Act.put, List.setIfInBounds_toArray, List.set_cons_zero, List.set_cons_succ]
            refine wpAnyH_ready (rs := [9]) (by kernel_rfl) (by simp) ?_
            refine AllReadyH.cons (o := { dst := some 102, op := Op.call { callee := Callee.value (Operand.func 51), args := #[Operand.tmp 97, Operand.tmp 99, Operand.tmp 101], argTypes := #[25, 3, 27] }, type := 3, pos := "ref.go:54", after := #[{ on := 4, ground := Ground.data }, { on := 6, ground := Ground.data }, { on := 8, ground := Ground.data }, { on := 3, ground := Ground.chain }, { on := 3, ground := Ground.guard }], guard := some (3, false) }) rfl (fun K hK => ?_) (AllReadyH.nil)
            rw [if_neg (by exact Bool.false_ne_true)]
            have HS23 : Hid (Hp w [.ob (w.heap.size) 25 (tbCells (.slice a l.length cap) (.slice (some ⟨g, off, none⟩) m.length cap2)), .ob B1 29 (grCells x)] w22) := HS22.out
            refine hK.out _ _ (⟨(fun j v hv => by rw [Nat.zero_add]; exact (HS23.out).at 0 rfl j hv), (fun j v hv => by rw [Nat.zero_add]; exact (HS23.out).at 1 rfl j hv)⟩) (fun hHeld => ?_)
            clear hK K
            try simp only [Act.put, List.setIfInBounds_toArray, List.set_cons_zero, List.set_cons_succ]
            refine wpAnyH_take (i := 12) (oi := { dst := some 105, op := Op.binOp BinOp.geq 3 (Operand.tmp 102) (Operand.tmp 104) 3, type := 4, pos := "ref.go:54", after := #[{ on := 9, ground := Ground.data }, { on := 11, ground := Ground.data }, { on := 3, ground := Ground.guard }], guard := some (3, false) }) (v := undef) rfl (by kernel_rfl) (by kernel_rfl) (by kernel_rfl) (fun _ _ _ h => h) (Or.inr ⟨by rfl, rfl⟩) hHeld ?_
            try simp only [Act.put, List.setIfInBounds_toArray, List.set_cons_zero, List.set_cons_succ]
            refine wpAnyH_take (i := 13) (oi := { dst := some 106, op := Op.pick (Operand.tmp 96) (Operand.const (Value.bool true)) (Operand.tmp 105), type := 4, pos := "ref.go:54", after := #[{ on := 3, ground := Ground.data }, { on := 12, ground := Ground.data }], guard := none }) (v := ?q1012v) rfl (by kernel_rfl) (by kernel_rfl) (by kernel_rfl) (fun _ _ _ h => h) (Or.inl ⟨by rfl, ?q1012h⟩) hHeld ?q1012r
            case q1012h => (intro wq hSw; clear hSw; go_simp; try with_reducible rfl)
            try simp only [Act.put, List.setIfInBounds_toArray, List.set_cons_zero, List.set_cons_succ]
            refine wpAnyH_done (by kernel_rfl) ?_ _
            go_wp2_with fail
            go_ret
            exact ⟨by rw [HX.out]; rfl, HS23.out.old⟩
          case true =>
            have HOk1 := Lib.hid (HOx.out.1 rfl)
            clear hNx HOx
            by_cases hmd : x.mode ≤ md
            · have HX := Lib.hid (hNm hmd)
              have dm : decide (x.mode ≤ md) = true := decide_eq_true hmd
              clear hNm hmd
              refine wp_region_held_drew (S := fun w' => w'.rangeAt w.heap.size 0 (tbCells (.slice a l.length cap) (.slice (some ⟨g, off, none⟩) m.length cap2)) ∧ w'.rangeAt B1 0 (grCells x)) (by kernel_rfl) (⟨(fun j v hv => by rw [Nat.zero_add]; exact ((HS21.out).drew).at 0 rfl j hv), (fun j v hv => by rw [Nat.zero_add]; exact ((HS21.out).drew).at 1 rfl j hv)⟩) (fun hHeld => ?_)
              refine wpAnyH_take (i := 0) (oi := { dst := some 93, op := Op.load 29 (Operand.tmp 6), type := 29, pos := "ref.go:54", after := #[], guard := none }) rfl (by kernel_rfl) (by kernel_rfl) (by kernel_rfl) (fun _ _ _ h => h) (yieldsIf_load_mid (by rfl) 29 (.tmp 6) rfl B1 (0) rfl (grCells x) _ (fun _ h => h.2) HUG.out rfl (info_gr)) hHeld ?_
              try simp only [Act.put, List.setIfInBounds_toArray, List.set_cons_zero, List.set_cons_succ]
              refine wpAnyH_ready (rs := [1]) (by kernel_rfl) (by simp) ?_
              refine AllReadyH.cons (o := { dst := some 94, op := Op.call { callee := Callee.value (Operand.func 49), args := #[Operand.tmp 93], argTypes := #[29] }, type := 4, pos := "ref.go:54", after := #[{ on := 0, ground := Ground.data }], guard := none }) rfl (fun K hK => ?_) (AllReadyH.nil)
              go_simp
              go_wp2_with (go_at_call 49; refine (HGr.out _).mono ?_; rintro e w22 ⟨rfl, hb⟩)
              have HS22 : Hid (Hp w [.ob (w.heap.size) 25 (tbCells (.slice a l.length cap) (.slice (some ⟨g, off, none⟩) m.length cap2)), .ob B1 29 (grCells x)] w22) := ((HS21.out).drew).calls hb
              refine hK.out _ _ (⟨(fun j v hv => by rw [Nat.zero_add]; exact (HS22.out).at 0 rfl j hv), (fun j v hv => by rw [Nat.zero_add]; exact (HS22.out).at 1 rfl j hv)⟩) (fun hHeld => ?_)
              clear hK K hb
              try simp only [Act.put, List.setIfInBounds_toArray, List.set_cons_zero, List.set_cons_succ]
              refine wpAnyH_take (i := 2) (oi := { dst := some 95, op := Op.unOp UnOp.not 4 (Operand.tmp 94), type := 4, pos := "ref.go:54", after := #[{ on := 1, ground := Ground.data }], guard := none }) (v := ?q1044v) rfl (by kernel_rfl) (by kernel_rfl) (by kernel_rfl) (fun _ _ _ h => h) (Or.inl ⟨by rfl, ?q1044h⟩) hHeld ?q1044r
              case q1044h => (intro wq hSw; clear hSw; go_simp; try with_reducible rfl)
              try simp only [Act.put, List.setIfInBounds_toArray, List.set_cons_zero, List.set_cons_succ]
              refine wpAnyH_take (i := 3) (oi := { dst := some 96, op := Op.move (Operand.tmp 95), type := 4, pos := "ref.go:54", after := #[{ on := 2, ground := Ground.data }, { on := 1, ground := Ground.chain }], guard := none }) (v := ?q1045v) rfl (by kernel_rfl) (by kernel_rfl) (by kernel_rfl) (fun _ _ _ h => h) (Or.inl ⟨by rfl, ?q1045h⟩) hHeld ?q1045r
              case q1045h => (intro wq hSw; clear hSw; go_simp; try with_reducible rfl)
              try simp only [Act.put, List.setIfInBounds_toArray, List.set_cons_zero, List.set_cons_succ]
              refine wpAnyH_take (i := 4) (oi := { dst := some 97, op := Op.load 25 (Operand.tmp 1), type := 25, pos := "ref.go:54", after := #[{ on := 3, ground := Ground.guard }], guard := some (3, false) }) rfl (by kernel_rfl) (by kernel_rfl) (by kernel_rfl) (fun _ _ _ h => h) (yieldsIf_load_mid (by rfl) 25 (.tmp 1) rfl w.heap.size (0) rfl (tbCells (.slice a l.length cap) (.slice (some ⟨g, off, none⟩) m.length cap2)) _ (fun _ h => h.1) HUT.out rfl (info_tb)) hHeld ?_
              try simp only [Act.put, List.setIfInBounds_toArray, List.set_cons_zero, List.set_cons_succ]
              refine wpAnyH_take (i := 5) (oi := { dst := some 98, op := Op.fieldAddr 29 (Operand.tmp 6) 0, type := 0, pos := "ref.go:54", after := #[{ on := 3, ground := Ground.guard }], guard := some (3, false) }) (v := ?q1047v) rfl (by kernel_rfl) (by kernel_rfl) (by kernel_rfl) (fun _ _ _ h => h) (Or.inl ⟨by rfl, ?q1047h⟩) hHeld ?q1047r
              case q1047h => (intro wq hSw; clear hSw; go_simp; try with_reducible rfl)
              try simp only [Act.put, List.setIfInBounds_toArray, List.set_cons_zero, List.set_cons_succ]
              refine wpAnyH_take (i := 6) (oi := { dst := some 99, op := Op.load 3 (Operand.tmp 98), type := 3, pos := "ref.go:54", after := #[{ on := 5, ground := Ground.data }, { on := 3, ground := Ground.guard }], guard := some (3, false) }) (v := .int .i64 x.tx) rfl (by kernel_rfl) (by kernel_rfl) (by kernel_rfl) (fun _ _ _ h => h) (Or.inl ⟨by rfl, ?q1048h⟩) hHeld ?q1048r
              case q1048h => (intro wq hSw; have lq := (hSw.2) 0 (.int .i64 x.tx) rfl; simp only [Nat.zero_add] at lq; clear hSw; go_simp; try with_reducible rfl)
              try simp only [Act.put, List.setIfInBounds_toArray, List.set_cons_zero, List.set_cons_succ]
              refine wpAnyH_take (i := 7) (oi := { dst := some 100, op := Op.fieldAddr 29 (Operand.tmp 6) 1, type := 0, pos := "ref.go:54", after := #[{ on := 3, ground := Ground.guard }], guard := some (3, false) }) (v := ?q1049v) rfl (by kernel_rfl) (by kernel_rfl) (by kernel_rfl) (fun _ _ _ h => h) (Or.inl ⟨by rfl, ?q1049h⟩) hHeld ?q1049r
              case q1049h => (intro wq hSw; clear hSw; go_simp; try with_reducible rfl)
              try simp only [Act.put, List.setIfInBounds_toArray, List.set_cons_zero, List.set_cons_succ]
              refine wpAnyH_take (i := 8) (oi := { dst := some 101, op := Op.load 27 (Operand.tmp 100), type := 27, pos := "ref.go:54", after := #[{ on := 7, ground := Ground.data }, { on := 3, ground := Ground.guard }], guard := some (3, false) }) rfl (by kernel_rfl) (by kernel_rfl) (by kernel_rfl) (fun _ _ _ h => h) (yieldsIf_load_mid (by rfl) 27 (.tmp 100) rfl B1 (1) rfl (lkCells x.lock) _ (fun _ h => range_part (h.2) (mid_lk x)) HUK.out rfl (info_lk)) hHeld ?_
              try simp only [Act.put, List.setIfInBounds_toArray, List.set_cons_zero, List.set_cons_succ]
              refine wpAnyH_take (i := 10) (oi := { dst := some 103, op := Op.fieldAddr 29 (Operand.tmp 6) 2, type := 0, pos := "ref.go:54", after := #[{ on := 3, ground := Ground.guard }], guard := some (3, false) }) (v := ?q1051v) rfl (by kernel_rfl) (by kernel_rfl) (by kernel_rfl) (fun _ _ _ h => h) (Or.inl ⟨by rfl, ?q1051h⟩) hHeld ?q1051r
              case q1051h => (intro wq hSw; clear hSw; go_simp; try with_reducible rfl)
              try simp only [Act.put, List.setIfInBounds_toArray, List.set_cons_zero, List.set_cons_succ]
              refine wpAnyH_take (i := 11) (oi := { dst := some 104, op := Op.load 3 (Operand.tmp 103), type := 3, pos := "ref.go:54", after := #[{ on := 10, ground := Ground.data }, { on := 3, ground := Ground.guard }], guard := some (3, false) }) (v := .int .i64 x.mode) rfl (by kernel_rfl) (by kernel_rfl) (by kernel_rfl) (fun _ _ _ h => h) (Or.inl ⟨by rfl, ?q1052h⟩) hHeld ?q1052r
              case q1052h => (intro wq hSw; have lq := (hSw.2) 3 (.int .i64 x.mode) rfl; simp only [Nat.zero_add] at lq; clear hSw; go_simp; try with_reducible rfl)
              try simp only [Act.put, List.setIfInBounds_toArray, List.set_cons_zero, List.set_cons_succ]
              refine wpAnyH_ready (rs := [9]) (by kernel_rfl) (by simp) ?_
              refine AllReadyH.cons (o := { dst := some 102, op := Op.call { callee := Callee.value (Operand.func 51), args := #[Operand.tmp 97, Operand.tmp 99, Operand.tmp 101], argTypes := #[25, 3, 27] }, type := 3, pos := "ref.go:54", after := #[{ on := 4, ground := Ground.data }, { on := 6, ground := Ground.data }, { on := 8, ground := Ground.data }, { on := 3, ground := Ground.chain }, { on := 3, ground := Ground.guard }], guard := some (3, false) }) rfl (fun K hK => ?_) (AllReadyH.nil)
              go_simp
              go_wp2_with (go_at_call 51; refine (HMx.out _ (HS22.out).old).mono ?_; rintro e w23 ⟨rfl, hb⟩)
              have HS23 : Hid (Hp w [.ob (w.heap.size) 25 (tbCells (.slice a l.length cap) (.slice (some ⟨g, off, none⟩) m.length cap2)), .ob B1 29 (grCells x)] w23) := (HS22.out).calls hb
              refine hK.out _ _ (⟨(fun j v hv => by rw [Nat.zero_add]; exact (HS23.out).at 0 rfl j hv), (fun j v hv => by rw [Nat.zero_add]; exact (HS23.out).at 1 rfl j hv)⟩) (fun hHeld => ?_)
              clear hK K hb
              try simp only [Act.put, List.setIfInBounds_toArray, List.set_cons_zero, List.set_cons_succ]
              refine wpAnyH_take (i := 12) (oi := { dst := some 105, op := Op.binOp BinOp.geq 3 (Operand.tmp 102) (Operand.tmp 104) 3, type := 4, pos := "ref.go:54", after := #[{ on := 9, ground := Ground.data }, { on := 11, ground := Ground.data }, { on := 3, ground := Ground.guard }], guard := some (3, false) }) (v := ?q1053v) rfl (by kernel_rfl) (by kernel_rfl) (by kernel_rfl) (fun _ _ _ h => h) (Or.inl ⟨by rfl, ?q1053h⟩) hHeld ?q1053r
              case q1053h => (intro wq hSw; clear hSw; go_simp; try with_reducible rfl)
              try simp only [Act.put, List.setIfInBounds_toArray, List.set_cons_zero, List.set_cons_succ]
              refine wpAnyH_take (i := 13) (oi := { dst := some 106, op := Op.pick (Operand.tmp 96) (Operand.const (Value.bool true)) (Operand.tmp 105), type := 4, pos := "ref.go:54", after := #[{ on := 3, ground := Ground.data }, { on := 12, ground := Ground.data }], guard := none }) (v := ?q1054v) rfl (by kernel_rfl) (by kernel_rfl) (by kernel_rfl) (fun _ _ _ h => h) (Or.inl ⟨by rfl, ?q1054h⟩) hHeld ?q1054r
              case q1054h => (intro wq hSw; clear hSw; go_simp; try with_reducible rfl)
              try simp only [Act.put, List.setIfInBounds_toArray, List.set_cons_zero, List.set_cons_succ]
              refine wpAnyH_done (by kernel_rfl) ?_ _
              go_wp2_with fail
              go_ret
              exact ⟨by rw [HX.out]; rfl, HS23.out.old⟩
            · have HM1 : Hid (md < x.mode) := Lib.hid (by omega)
              have dm : decide (x.mode ≤ md) = false := decide_eq_false hmd
              clear hNm hmd
              refine wp_region_held_drew (S := fun w' => w'.rangeAt w.heap.size 0 (tbCells (.slice a l.length cap) (.slice (some ⟨g, off, none⟩) m.length cap2)) ∧ w'.rangeAt B1 0 (grCells x)) (by kernel_rfl) (⟨(fun j v hv => by rw [Nat.zero_add]; exact ((HS21.out).drew).at 0 rfl j hv), (fun j v hv => by rw [Nat.zero_add]; exact ((HS21.out).drew).at 1 rfl j hv)⟩) (fun hHeld => ?_)
              refine wpAnyH_take (i := 0) (oi := { dst := some 93, op := Op.load 29 (Operand.tmp 6), type := 29, pos := "ref.go:54", after := #[], guard := none }) rfl (by kernel_rfl) (by kernel_rfl) (by kernel_rfl) (fun _ _ _ h => h) (yieldsIf_load_mid (by rfl) 29 (.tmp 6) rfl B1 (0) rfl (grCells x) _ (fun _ h => h.2) HUG.out rfl (info_gr)) hHeld ?_
              try simp only [Act.put, List.setIfInBounds_toArray, List.set_cons_zero, List.set_cons_succ]
              refine wpAnyH_ready (rs := [1]) (by kernel_rfl) (by simp) ?_
              refine AllReadyH.cons (o := { dst := some 94, op := Op.call { callee := Callee.value (Operand.func 49), args := #[Operand.tmp 93], argTypes := #[29] }, type := 4, pos := "ref.go:54", after := #[{ on := 0, ground := Ground.data }], guard := none }) rfl (fun K hK => ?_) (AllReadyH.nil)
              go_simp
              go_wp2_with (go_at_call 49; refine (HGr.out _).mono ?_; rintro e w22 ⟨rfl, hb⟩)
              have HS22 : Hid (Hp w [.ob (w.heap.size) 25 (tbCells (.slice a l.length cap) (.slice (some ⟨g, off, none⟩) m.length cap2)), .ob B1 29 (grCells x)] w22) := ((HS21.out).drew).calls hb
              refine hK.out _ _ (⟨(fun j v hv => by rw [Nat.zero_add]; exact (HS22.out).at 0 rfl j hv), (fun j v hv => by rw [Nat.zero_add]; exact (HS22.out).at 1 rfl j hv)⟩) (fun hHeld => ?_)
              clear hK K hb
              try simp only [Act.put, List.setIfInBounds_toArray, List.set_cons_zero, List.set_cons_succ]
              refine wpAnyH_take (i := 2) (oi := { dst := some 95, op := Op.unOp UnOp.not 4 (Operand.tmp 94), type := 4, pos := "ref.go:54", after := #[{ on := 1, ground := Ground.data }], guard := none }) (v := ?q1086v) rfl (by kernel_rfl) (by kernel_rfl) (by kernel_rfl) (fun _ _ _ h => h) (Or.inl ⟨by rfl, ?q1086h⟩) hHeld ?q1086r
              case q1086h => (intro wq hSw; clear hSw; go_simp; try with_reducible rfl)
              try simp only [Act.put, List.setIfInBounds_toArray, List.set_cons_zero, List.set_cons_succ]
              refine wpAnyH_take (i := 3) (oi := { dst := some 96, op := Op.move (Operand.tmp 95), type := 4, pos := "ref.go:54", after := #[{ on := 2, ground := Ground.data }, { on := 1, ground := Ground.chain }], guard := none }) (v := ?q1087v) rfl (by kernel_rfl) (by kernel_rfl) (by kernel_rfl) (fun _ _ _ h => h) (Or.inl ⟨by rfl, ?q1087h⟩) hHeld ?q1087r
              case q1087h => (intro wq hSw; clear hSw; go_simp; try with_reducible rfl)
              try simp only [Act.put, List.setIfInBounds_toArray, List.set_cons_zero, List.set_cons_succ]
              refine wpAnyH_take (i := 4) (oi := { dst := some 97, op := Op.load 25 (Operand.tmp 1), type := 25, pos := "ref.go:54", after := #[{ on := 3, ground := Ground.guard }], guard := some (3, false) }) rfl (by kernel_rfl) (by kernel_rfl) (by kernel_rfl) (fun _ _ _ h => h) (yieldsIf_load_mid (by rfl) 25 (.tmp 1) rfl w.heap.size (0) rfl (tbCells (.slice a l.length cap) (.slice (some ⟨g, off, none⟩) m.length cap2)) _ (fun _ h => h.1) HUT.out rfl (info_tb)) hHeld ?_
              try simp only [Act.put, List.setIfInBounds_toArray, List.set_cons_zero, List.set_cons_succ]
              refine wpAnyH_take (i := 5) (oi := { dst := some 98, op := Op.fieldAddr 29 (Operand.tmp 6) 0, type := 0, pos := "ref.go:54", after := #[{ on := 3, ground := Ground.guard }], guard := some (3, false) }) (v := ?q1089v) rfl (by kernel_rfl) (by kernel_rfl) (by kernel_rfl) (fun _ _ _ h => h) (Or.inl ⟨by rfl, ?q1089h⟩) hHeld ?q1089r
              case q1089h => (intro wq hSw; clear hSw; go_simp; try with_reducible rfl)
              try simp only [Act.put, List.setIfInBounds_toArray, List.set_cons_zero, List.set_cons_succ]
              refine wpAnyH_take (i := 6) (oi := { dst := some 99, op := Op.load 3 (Operand.tmp 98), type := 3, pos := "ref.go:54", after := #[{ on := 5, ground := Ground.data }, { on := 3, ground := Ground.guard }], guard := some (3, false) }) (v := .int .i64 x.tx) rfl (by kernel_rfl) (by kernel_rfl) (by kernel_rfl) (fun _ _ _ h => h) (Or.inl ⟨by rfl, ?q1090h⟩) hHeld ?q1090r
              case q1090h => (intro wq hSw; have lq := (hSw.2) 0 (.int .i64 x.tx) rfl; simp only [Nat.zero_add] at lq; clear hSw; go_simp; try with_reducible rfl)
              try simp only [Act.put, List.setIfInBounds_toArray, List.set_cons_zero, List.set_cons_succ]
              refine wpAnyH_take (i := 7) (oi := { dst := some 100, op := Op.fieldAddr 29 (Operand.tmp 6) 1, type := 0, pos := "ref.go:54", after := #[{ on := 3, ground := Ground.guard }], guard := some (3, false) }) (v := ?q1091v) rfl (by kernel_rfl) (by kernel_rfl) (by kernel_rfl) (fun _ _ _ h => h) (Or.inl ⟨by rfl, ?q1091h⟩) hHeld ?q1091r
              case q1091h => (intro wq hSw; clear hSw; go_simp; try with_reducible rfl)
              try simp only [Act.put, List.setIfInBounds_toArray, List.set_cons_zero, List.set_cons_succ]
              refine wpAnyH_take (i := 8) (oi := { dst := some 101, op := Op.load 27 (Operand.tmp 100), type := 27, pos := "ref.go:54", after := #[{ on := 7, ground := Ground.data }, { on := 3, ground := Ground.guard }], guard := some (3, false) }) rfl (by kernel_rfl) (by kernel_rfl) (by kernel_rfl) (fun _ _ _ h => h) (yieldsIf_load_mid (by rfl) 27 (.tmp 100) rfl B1 (1) rfl (lkCells x.lock) _ (fun _ h => range_part (h.2) (mid_lk x)) HUK.out rfl (info_lk)) hHeld ?_
              try simp only [Act.put, List.setIfInBounds_toArray, List.set_cons_zero, List.set_cons_succ]
              refine wpAnyH_take (i := 10) (oi := { dst := some 103, op := Op.fieldAddr 29 (Operand.tmp 6) 2, type := 0, pos := "ref.go:54", after := #[{ on := 3, ground := Ground.guard }], guard := some (3, false) }) (v := ?q1093v) rfl (by kernel_rfl) (by kernel_rfl) (by kernel_rfl) (fun _ _ _ h => h) (Or.inl ⟨by rfl, ?q1093h⟩) hHeld ?q1093r
              case q1093h => (intro wq hSw; clear hSw; go_simp; try with_reducible rfl)
              try simp only [Act.put, List.setIfInBounds_toArray, List.set_cons_zero, List.set_cons_succ]
              refine wpAnyH_take (i := 11) (oi := { dst := some 104, op := Op.load 3 (Operand.tmp 103), type := 3, pos := "ref.go:54", after := #[{ on := 10, ground := Ground.data }, { on := 3, ground := Ground.guard }], guard := some (3, false) }) (v := .int .i64 x.mode) rfl (by kernel_rfl) (by kernel_rfl) (by kernel_rfl) (fun _ _ _ h => h) (Or.inl ⟨by rfl, ?q1094h⟩) hHeld ?q1094r
              case q1094h => (intro wq hSw; have lq := (hSw.2) 3 (.int .i64 x.mode) rfl; simp only [Nat.zero_add] at lq; clear hSw; go_simp; try with_reducible rfl)
              try simp only [Act.put, List.setIfInBounds_toArray, List.set_cons_zero, List.set_cons_succ]
              refine wpAnyH_ready (rs := [9]) (by kernel_rfl) (by simp) ?_
              refine AllReadyH.cons (o := { dst := some 102, op := Op.call { callee := Callee.value (Operand.func 51), args := #[Operand.tmp 97, Operand.tmp 99, Operand.tmp 101], argTypes := #[25, 3, 27] }, type := 3, pos := "ref.go:54", after := #[{ on := 4, ground := Ground.data }, { on := 6, ground := Ground.data }, { on := 8, ground := Ground.data }, { on := 3, ground := Ground.chain }, { on := 3, ground := Ground.guard }], guard := some (3, false) }) rfl (fun K hK => ?_) (AllReadyH.nil)
              go_simp
              go_wp2_with (go_at_call 51; refine (HMx.out _ (HS22.out).old).mono ?_; rintro e w23 ⟨rfl, hb⟩)
              have HS23 : Hid (Hp w [.ob (w.heap.size) 25 (tbCells (.slice a l.length cap) (.slice (some ⟨g, off, none⟩) m.length cap2)), .ob B1 29 (grCells x)] w23) := (HS22.out).calls hb
              refine hK.out _ _ (⟨(fun j v hv => by rw [Nat.zero_add]; exact (HS23.out).at 0 rfl j hv), (fun j v hv => by rw [Nat.zero_add]; exact (HS23.out).at 1 rfl j hv)⟩) (fun hHeld => ?_)
              clear hK K hb
              try simp only [Act.put, List.setIfInBounds_toArray, List.set_cons_zero, List.set_cons_succ]
              refine wpAnyH_take (i := 12) (oi := { dst := some 105, op := Op.binOp BinOp.geq 3 (Operand.tmp 102) (Operand.tmp 104) 3, type := 4, pos := "ref.go:54", after := #[{ on := 9, ground := Ground.data }, { on := 11, ground := Ground.data }, { on := 3, ground := Ground.guard }], guard := some (3, false) }) (v := ?q1095v) rfl (by kernel_rfl) (by kernel_rfl) (by kernel_rfl) (fun _ _ _ h => h) (Or.inl ⟨by rfl, ?q1095h⟩) hHeld ?q1095r
              case q1095h => (intro wq hSw; clear hSw; go_simp; try with_reducible rfl)
              try simp only [Act.put, List.setIfInBounds_toArray, List.set_cons_zero, List.set_cons_succ]
              refine wpAnyH_take (i := 13) (oi := { dst := some 106, op := Op.pick (Operand.tmp 96) (Operand.const (Value.bool true)) (Operand.tmp 105), type := 4, pos := "ref.go:54", after := #[{ on := 3, ground := Ground.data }, { on := 12, ground := Ground.data }], guard := none }) (v := ?q1096v) rfl (by kernel_rfl) (by kernel_rfl) (by kernel_rfl) (fun _ _ _ h => h) (Or.inl ⟨by rfl, ?q1096h⟩) hHeld ?q1096r
              case q1096h => (intro wq hSw; clear hSw; go_simp; try with_reducible rfl)
              try simp only [Act.put, List.setIfInBounds_toArray, List.set_cons_zero, List.set_cons_succ]
              refine wpAnyH_done (by kernel_rfl) ?_ _
              go_wp2_with fail
              go_loopw [7] (fun kv wq => ∃ q : Nat, q ≤ i ∧ kv = .int .i64 q ∧ (∀ k, k < q → ∀ z, m[k]? = some z → z.tx ≠ x.tx) ∧ Hp w [.ob (w.heap.size) 25 (tbCells (.slice a l.length cap) (.slice (some ⟨g, off, none⟩) m.length cap2)), .ob B1 29 (grCells x)] wq) (fun kv _ => i - (intOf kv).toNat)
              case atStart => exact ⟨0, Nat.zero_le _, rfl, fun k h => absurd h (by omega), HS23.out⟩
              case round =>
                obtain ⟨q, hq, rfl, hfr, hs⟩ := hrel
                have HY := Lib.hid hs
                have HFr := Lib.hid hfr
                clear hs hfr HS23
                by_cases hqi : q < i
                · obtain ⟨y, hy⟩ : ∃ y, m[q]? = some y := ⟨_, List.getElem?_eq_getElem (by have := HLt.out; omega)⟩
                  have HYq := Lib.hid hy
                  have hqii : (q : Int) < (i : Int) := by omega
                  have hqm : (q : Int) < (m.length : Int) := by omega
                  have hq0 : (0 : Int) ≤ (q : Int) := by omega
                  have b1 : wr.cell? ⟨w.heap.size, 1, none⟩ = some (.slice (some ⟨g, off, none⟩) m.length cap2) := HY.out.at 0 rfl 1 rfl
                  have gx : wr.cell? ⟨B1, 0, none⟩ = some (.int .i64 x.tx) := HY.out.at 1 rfl 0 rfl
                  have cy : wr.cell? ⟨g, off + q * 4, none⟩ = some (.int .i64 y.tx) := HRg.out wr HY.out.old (q * 4 + 0) _ (grRow_at m q y hy 0 _ rfl)
                  have HQi := Lib.hid hqi
                  have hNx := HWt.out i q x y HXi.out hqi hy
                  clear hy hq hqi
                  by_cases htx : y.tx = x.tx
                  · obtain ⟨e1, n1⟩ := eq_facts htx
                    have HX := Lib.hid (hNx htx)
                    clear hNx htx
                    go_wp2_with fail
                    go_quiet (fail)
                    have HY2 := Lib.hid (HY.out.drewN nq)
                    clear HY
                    go_wp2_with fail
                    go_ret
                    exact ⟨by rw [HX.out]; rfl, HY2.out.old⟩
                  · obtain ⟨e1, n1⟩ := ne_facts htx
                    have HTx := Lib.hid htx
                    clear hNx htx
                    go_wp2_with fail
                    go_quiet (fail)
                    have HY2 := Lib.hid (HY.out.drewN nq)
                    clear HY b1 gx cy
                    generalize wr.drewN nq = w2 at *
                    go_wp2_with fail
                    go_roundw
                    case rel =>
                      refine ⟨q + 1, HQi.out, by go_num, fun k hk z hz => ?_, HY2.out⟩
                      rcases Nat.lt_or_ge k q with h3 | h3
                      · exact HFr.out k h3 z hz
                      · obtain rfl : k = q := by omega
                        rw [HYq.out] at hz
                        rw [← Option.some.inj hz]; exact HTx.out
                    case measure => simp [intOf]; try (have := HQi.out; omega)
                · obtain rfl : q = i := by omega
                  have HY3 := Lib.hid (HY.out.forget (L := [.ob w.heap.size 25 (tbCells (.slice a l.length cap) (.slice (some ⟨g, off, none⟩) m.length cap2))]) (M := [.ob B1 29 (grCells x)]))
                  clear hqi hq HY
                  go_wp2_with fail
                  go_roundw
                  case rel => exact ⟨q + 1, HLt.out, by go_num, by rw [lk_take_snoc HXi.out]; exact wait_snoc HH.out HOk1.out (by rw [HMe.out]; exact HM1.out) (mem_take_of HFr.out), HY3.out⟩
                  case measure => simp [intOf]; try (have := HLt.out; omega)
        · obtain rfl : i = m.length := by omega
          have HX : Hid (ok = true) := Lib.hid (HOk.out HL.out HHl.out (by have := HH.out; rwa [List.take_length] at this))
          clear hlt hi HH
          go_wp2_with fail
          go_ret
          exact ⟨by rw [HX.out]; rfl, HY.out.old⟩

end Go.Proofs.Ytooaldglgkjjgaa
/- parts of a list of grants read; what is read, put together -/
namespace Go.Proofs.Ytooaldglgkjjgaa
open Go.RowKit
set_option maxRecDepth 20000

theorem gr_take {a : Option Addr} {cap : Nat} {l : List Gr} {R : List Rng} (h : GrRd (.slice a l.length cap) l R) (k : Nat) (hk : k ≤ l.length) :
    ∃ R', GrRd (.slice a k cap) (l.take k) R' ∧ (∀ W, RdIn W R → RdIn W R') ∧ ∀ r ∈ R', r.1 ∈ R.map (·.1) := by
  obtain ⟨a', cap', e, h2, h3, h4, h5, h6⟩ := h
  obtain ⟨rfl, rfl⟩ : a = a' ∧ cap = cap' := by simpa using e
  have hlen : (l.take k).length = k := by rw [List.length_take]; omega
  rcases Nat.eq_zero_or_pos k with h0 | h0
  · refine ⟨[], ⟨a, cap, by rw [hlen], by rw [grRow_length], by omega, h4, fun h => by omega, h6⟩, fun W _ => RdIn.nil W, fun r hr => by cases hr⟩
  · obtain ⟨g, off, rfl, hm⟩ := h5 (by omega)
    refine ⟨[(g, off, grRow (l.take k))], ⟨_, cap, by rw [hlen], by rw [grRow_length], by omega, h4, fun _ => ⟨g, off, rfl, List.mem_singleton.2 rfl⟩, h6⟩, fun W hR r hr => ?_, fun r hr => ?_⟩
    · obtain rfl := List.mem_singleton.1 hr
      obtain ⟨h7, h8⟩ := hR _ hm
      refine ⟨h7, fun j u hu => h8 j u ?_⟩
      rw [grRow_take] at hu
      rw [List.getElem?_take] at hu
      split at hu
      · exact hu
      · cases hu
    · obtain rfl := List.mem_singleton.1 hr
      exact List.mem_map.2 ⟨_, hm, rfl⟩
theorem gr_drop {a : Option Addr} {cap : Nat} {l : List Gr} {R : List Rng} (h : GrRd (.slice a l.length cap) l R) (k : Nat) (hk : k ≤ l.length) :
    ∃ R', GrRd (.slice (if cap = k then a else Option.map (fun x => Addr.add x (k * 4)) a) (l.length - k) (cap - k)) (l.drop k) R' ∧ (∀ W, RdIn W R → RdIn W R') ∧ ∀ r ∈ R', r.1 ∈ R.map (·.1) := by
  obtain ⟨a', cap', e, h2, h3, h4, h5, h6⟩ := h
  obtain ⟨rfl, rfl⟩ : a = a' ∧ cap = cap' := by simpa using e
  have hlen : (l.drop k).length = l.length - k := List.length_drop ..
  rcases Nat.eq_zero_or_pos (l.length - k) with h0 | h0
  · refine ⟨[], ⟨_, _, by rw [hlen], by rw [grRow_length], by rw [hlen]; omega, by omega, fun h => by omega, fun h => ?_⟩, fun W _ => RdIn.nil W, fun r hr => by cases hr⟩
    by_cases hc : cap = k
    · omega
    · rw [if_neg hc] at h
      have : a = none := by simpa using h
      have := h6 this
      omega
  · obtain ⟨g, off, rfl, hm⟩ := h5 (by omega)
    have hc : ¬ cap = k := by omega
    rw [if_neg hc]
    refine ⟨[(g, off + k * 4, grRow (l.drop k))], ⟨_, _, by rw [hlen], by rw [grRow_length], by rw [hlen]; omega, by omega, fun _ => ⟨g, off + k * 4, by rw [Option.map_some, Addr.add_mid], List.mem_singleton.2 rfl⟩, fun h => by simp at h⟩, fun W hR r hr => ?_, fun r hr => ?_⟩
    · obtain rfl := List.mem_singleton.1 hr
      obtain ⟨h7, h8⟩ := hR _ hm
      refine ⟨h7, fun j u hu => ?_⟩
      rw [grRow_drop, List.getElem?_drop] at hu
      have := h8 (k * 4 + j) u hu
      rw [Nat.add_assoc]
      exact this
    · obtain rfl := List.mem_singleton.1 hr
      exact List.mem_map.2 ⟨_, hm, rfl⟩
theorem Hp.rdmerge {w W : World} {A : List Th} {R S : List Rng} (h : Hp w (A ++ [.rd R, .rd S]) W) : Hp w (A ++ [.rd (R ++ S)]) W := by
  obtain ⟨ha, _, hc⟩ := List.pairwise_append.1 h.nd
  have h1 : RdIn W R := h.all (.rd R) (by simp)
  have h2 : RdIn W S := h.all (.rd S) (by simp)
  refine ⟨h.old, fun x hx => ?_, ?_⟩
  · rcases List.mem_append.1 hx with hx | hx
    · exact h.all x (List.mem_append_left _ hx)
    · obtain rfl := List.mem_singleton.1 hx
      exact h1.append h2
  · rw [List.pairwise_append]
    refine ⟨ha, List.pairwise_singleton _ _, fun a ham b hb => ?_⟩
    obtain rfl := List.mem_singleton.1 hb
    have ap1 := hc a ham (.rd R) (by simp)
    have ap2 := hc a ham (.rd S) (by simp)
    refine ⟨fun c hac => ⟨fun hbc => (by cases hbc), fun hbr => ?_⟩, fun c hbc => (by cases hbc)⟩
    obtain ⟨r, hr, rfl⟩ := List.mem_map.1 hbr
    rcases List.mem_append.1 hr with hr | hr
    · exact (ap1.1 _ hac).2 (List.mem_map.2 ⟨r, hr, rfl⟩)
    · exact (ap2.1 _ hac).2 (List.mem_map.2 ⟨r, hr, rfl⟩)
theorem Hp.ownrd2 {w W : World} {A : List Th} {v : Value} {e : TypeId} {z n : Nat} {xs : List Value} (h : Hp w (A ++ [.sl v e z n xs]) W) : ∃ R, SlRd v z n xs R ∧ (∀ r ∈ R, w.heap.size ≤ r.1) ∧ Hp w (A ++ [.rd R]) W := by
  have ho : W.ownsRow w.heap.size e z v n xs := h.all (.sl v e z n xs) (List.mem_append_right _ (List.mem_singleton.2 rfl))
  obtain ⟨R, h1, h2, h3⟩ := own_reads ho
  obtain ⟨ha, _, hc⟩ := List.pairwise_append.1 h.nd
  refine ⟨R, h1, fun r hr => (h3 r hr).1, h.old, fun x hx => ?_, ?_⟩
  · rcases List.mem_append.1 hx with hx | hx
    · exact h.all x (List.mem_append_left _ hx)
    · obtain rfl := List.mem_singleton.1 hx
      exact h2
  · rw [List.pairwise_append]
    refine ⟨ha, List.pairwise_singleton _ _, fun a ham b hb => ?_⟩
    obtain rfl := List.mem_singleton.1 hb
    have hap := hc a ham _ (List.mem_singleton.2 rfl)
    refine ⟨fun c hac => ⟨fun hbc => (by cases hbc), fun hbr => ?_⟩, fun c hbc => (by cases hbc)⟩
    obtain ⟨r, hr, rfl⟩ := List.mem_map.1 hbr
    exact (hap.1 _ hac).1 (h3 r hr).2
theorem TbRd.mono {h v : Value} {t : Tb} {R S : List Rng} (k : TbRd h v t R) (hs : ∀ r ∈ R, r ∈ S) : TbRd h v t S := ⟨SlRd.mono k.1 hs, SlRd.mono k.2 hs⟩
theorem GrRd.shape {v : Value} {l : List Gr} {R : List Rng} (h : GrRd v l R) : ∃ a c, v = .slice a l.length c ∧ l.length ≤ c ∧ c ≤ maxLen := by
  obtain ⟨a, c, h1, _, h2, h3, _⟩ := h
  exact ⟨a, c, h1, h2, h3⟩
theorem GrRd.base {a : Option Addr} {c : Nat} {l : List Gr} {R : List Rng} (h : GrRd (.slice a l.length c) l R) (h0 : 0 < l.length) : ∃ g off, a = some ⟨g, off, none⟩ ∧ ∀ W, RdIn W R → W.rangeAt g off (grRow l) := by
  obtain ⟨a', c', h1, _, _, _, h2, _⟩ := h
  obtain ⟨rfl, rfl⟩ : a = a' ∧ c = c' := by simpa using h1
  obtain ⟨g, off, h3, h4⟩ := h2 h0
  exact ⟨g, off, h3, fun W hR => (hR _ h4).2⟩
theorem wp_load_whole {o : Oper} {a : Act} {w : World} {K : Act → World → Prop} {Q : Exit → Act → World → Prop} (t : TypeId) (x : Operand) (b : Nat) (cs : List Value) (t0 : TypeId) {ds : TypeDesc} (hu : Try.prog.underlying t = some ds) (ho : o.op = .load t x) (hx : a.eval x = .pointer (some ⟨b, 0, none⟩)) (hg : w.heap[b]? = some (.cells cs.toArray t0 (0, 0)))
    (hd : ds.isRow = true) (hi : (Try.prog.info? t).map (·.size) = some cs.length) (h : K (a.put o.dst (.agg cs.toArray)) w) : o.wp Try.prog a w K Q :=
  wp_load_row t x ho b hx t0 cs.toArray (0, 0) ds hg hu (by cases ds <;> simp_all) (by rw [List.size_toArray]; exact hi) h
end Go.Proofs.Ytooaldglgkjjgaa
/- the reference's settle -/
namespace Go.Proofs.Ytooaldglgkjjgaa
open Go.RowKit
set_option maxRecDepth 20000
set_option linter.unusedSimpArgs false
set_option linter.unusedVariables false

theorem split_at {l : List Gr} {i : Nat} {x : Gr} (hx : l[i]? = some x) : l = l.take i ++ x :: l.drop (i + 1) := by
  have hlt := (List.getElem?_eq_some_iff.1 hx).1
  have := (List.take_append_drop i l).symm
  rw [List.drop_eq_getElem_cons hlt, (List.getElem?_eq_some_iff.1 hx).2] at this
  exact this
end Go.Proofs.Ytooaldglgkjjgaa
/- the reference's Mode, Waiting, place and Same -/
namespace Go.Proofs.Ytooaldglgkjjgaa
open Go.RowKit
set_option maxRecDepth 20000
set_option linter.unusedSimpArgs false
set_option linter.unusedVariables false

theorem wfind_first {l : List Gr} {i : Nat} {tx : Int} {x : Gr} (h : ∀ q, q < i → ∀ z, l[q]? = some z → z.tx ≠ tx) (hx : l[i]? = some x) (hk : x.tx = tx) : wfind l tx = some x := by
  have hlt := (List.getElem?_eq_some_iff.1 hx).1
  have e : l = l.take i ++ x :: l.drop (i + 1) := split_at hx
  unfold wfind
  rw [e, List.find?_append, List.find?_cons, decide_eq_true hk]
  have : (l.take i).find? (fun x => decide (x.tx = tx)) = none := by
    rw [List.find?_eq_none]
    intro z hz
    have := mem_take_of (P := fun z => z.tx ≠ tx) h z hz
    simpa using this
  rw [this]; rfl
end Go.Proofs.Ytooaldglgkjjgaa
/- what reads, its spare cut off, is appended to: the whole is new -/
namespace Go.Proofs.Ytooaldglgkjjgaa
open Go.RowKit
set_option maxRecDepth 20000

theorem results_cell_tmp2 {fn : Func} {p u u2 : Tmp} {ty : TypeId} (h : fn.results = #[.cell p ty, .tmp u, .tmp u2]) (tmps : Array Value) (P : Program) (w : World) :
    (results fn tmps).run P w =
      ((asAddr (tmps.getD p undef)).run P w).andThen fun a w₁ => ((loadVar ty a).run P w₁).andThen fun v w₂ => .ok (.tuple #[v, tmps.getD u undef, tmps.getD u2 undef]) w₂ := by
  simp only [results, h]
  simp [Sem.run_bind, Result.andThen]
theorem results_ob_tmp2 {fn : Func} {p u u2 : Tmp} {t : TypeId} (h : fn.results = #[.cell p t, .tmp u, .tmp u2]) (tmps : Array Value) (w : World) (g : Nat) (cs : List Value) (t0 : TypeId) (ds : TypeDesc)
    (hp : tmps.getD p undef = .pointer (some ⟨g, 0, none⟩)) (hg : w.heap[g]? = some (.cells cs.toArray t0 (0, 0))) (hu : Try.prog.underlying t = some ds) (hd : ds.isRow = true) (hi : (Try.prog.info? t).map (·.size) = some cs.length) :
    (results fn tmps).run Try.prog w = .ok (.tuple #[.agg cs.toArray, tmps.getD u undef, tmps.getD u2 undef]) w := by
  rw [results_cell_tmp2 h, hp]
  simp [asAddr, run_loadVar_row w g t0 t cs.toArray (0, 0) ds hg hu (by cases ds <;> simp_all) (by rw [List.size_toArray]; exact hi), Result.andThen]
end Go.Proofs.Ytooaldglgkjjgaa
/- the reference's Request -/
namespace Go.Proofs.Ytooaldglgkjjgaa
open Go.RowKit
set_option maxRecDepth 20000
set_option linter.unusedSimpArgs false
set_option linter.unusedVariables false

theorem waitR_good {t : Tb} (hg : GoodTb t) (tx : Int) : GoodGr (waitR t tx).1 := by
  unfold waitR
  split
  · cases h : wfind t.wait tx with
    | none => exact grNil_good
    | some x => exact hg.wait x (wfind_some h).1
  · exact grNil_good
theorem grEq_same (a b : Gr) : sameV a b = grEqB a b := by rw [Bool.eq_iff_iff, sameV_iff, grEqB_iff]
theorem place_le (h l : List Gr) (g : Gr) : wplaceR h l g ≤ l.length := by
  unfold wplaceR
  split
  · exact Nat.le_refl _
  · exact List.findIdx_le_length
end Go.Proofs.Ytooaldglgkjjgaa
/- the program's small functions on grants: comparing, the order, conflicts, validity, what finds grants (locks) -/
namespace Go.Proofs.Ytooaldglgkjjgaa
open Go.RowKit
set_option maxRecDepth 20000
set_option linter.unusedSimpArgs false
set_option linter.unusedVariables false

theorem isNaN_any (x : Int) (W : World) : Calls Try.prog 100 #[.int .i64 x] W fun e w' => e = .returned (.bool false) ∧ w' = W := by
  have h : (x != x) = false := by simp
  go_enter Try.func100, Try.ntmps100
  go_wp2
  go_ret
  exact ⟨rfl, rfl⟩
def cmpI (x y : Int) : Int := if x < y then -1 else if y < x then 1 else 0
theorem cmpI_lt {x y : Int} (h : x < y) : cmpI x y = -1 := if_pos h
theorem cmpI_gt {x y : Int} (h : y < x) : cmpI x y = 1 := by unfold cmpI; rw [if_neg (by omega), if_pos h]
theorem cmpI_eq {x y : Int} (h : x = y) : cmpI x y = 0 := by unfold cmpI; rw [if_neg (by omega), if_neg (by omega)]
theorem cmpI_zero {x y : Int} : cmpI x y = 0 ↔ x = y := by unfold cmpI; split <;> (try split) <;> omega
theorem cmpI_neg {x y : Int} : cmpI x y < 0 ↔ x < y := by unfold cmpI; split <;> (try split) <;> omega
set_option maxHeartbeats 4000000 in
theorem compare_any (x y : Int) (W : World) : Calls Try.prog 94 #[.int .i64 x, .int .i64 y] W fun e w' => e = .returned (.int .i64 (cmpI x y)) ∧ w' = W := by
  have hn := fun x => isNaN_any x W
  rcases Int.lt_trichotomy x y with h | h | h
  · have d1 : decide (x < y) = true := decide_eq_true h
    have HV := Lib.hid (cmpI_lt h)
    go_enter Try.func94, Try.ntmps94
    go_wp2_with (go_at_call 100; refine (hn _).mono ?_; rintro e w2 ⟨rfl, rfl⟩)
    go_ret
    exact ⟨by rw [HV.out]; rfl, rfl⟩
  · have d1 : ¬ x < y := by omega
    have d2 : ¬ y < x := by omega
    have HV := Lib.hid (cmpI_eq h)
    clear h
    go_enter Try.func94, Try.ntmps94
    go_wp2_with (go_at_call 100; refine (hn _).mono ?_; rintro e w2 ⟨rfl, rfl⟩)
    go_ret
    exact ⟨by rw [HV.out]; rfl, rfl⟩
  · have d1 : ¬ x < y := by omega
    have HV := Lib.hid (cmpI_gt h)
    go_enter Try.func94, Try.ntmps94
    go_wp2_with (go_at_call 100; refine (hn _).mono ?_; rintro e w2 ⟨rfl, rfl⟩)
    go_ret
    exact ⟨by rw [HV.out]; rfl, rfl⟩
def orI (x y z : Int) : Int := if x = 0 then (if y = 0 then z else y) else x
set_option maxHeartbeats 4000000 in
theorem or3_any (x y z : Int) (b : Nat) (w : World) (h0 : w.cell? ⟨b, 0, none⟩ = some (.int .i64 x)) (h1 : w.cell? ⟨b, 1, none⟩ = some (.int .i64 y)) (h2 : w.cell? ⟨b, 2, none⟩ = some (.int .i64 z)) :
    Calls Try.prog 93 #[.slice (some ⟨b, 0, none⟩) 3 3] w fun e w' => e = .returned (.int .i64 (orI x y z)) ∧ w' = w := by
  have HC : Hid (∀ j : Nat, j < 3 → ∃ u, w.cell? ⟨b, j, none⟩ = some (.int .i64 u) ∧ (([x, y, z] : List Int)[j]? = some u)) := fun j hj => by
    match j with
    | 0 => exact ⟨x, h0, rfl⟩
    | 1 => exact ⟨y, h1, rfl⟩
    | 2 => exact ⟨z, h2, rfl⟩
    | j + 3 => omega
  have HO : Hid (∀ (j : Nat) (u : Int), ([x, y, z] : List Int)[j]? = some u → (∀ k v, k < j → ([x, y, z] : List Int)[k]? = some v → v = 0) → ¬ u = 0 → orI x y z = u) := fun j u hu hb hn => by
    match j with
    | 0 =>
      obtain rfl : x = u := by simpa using hu
      unfold orI; rw [if_neg hn]
    | 1 =>
      obtain rfl : y = u := by simpa using hu
      unfold orI; rw [if_pos (hb 0 x (by omega) rfl), if_neg hn]
    | 2 =>
      obtain rfl : z = u := by simpa using hu
      unfold orI; rw [if_pos (hb 0 x (by omega) rfl), if_pos (hb 1 y (by omega) rfl)]
    | j + 3 => simp at hu
  have HZ : Hid ((∀ k v, k < 3 → ([x, y, z] : List Int)[k]? = some v → v = 0) → orI x y z = 0) := fun hb => by
    unfold orI; rw [if_pos (hb 0 x (by omega) rfl), if_pos (hb 1 y (by omega) rfl)]; exact hb 2 z (by omega) rfl
  clear h0 h1 h2
  generalize orI x y z = o at *
  generalize ([x, y, z] : List Int) = l at *
  go_enter Try.func93, Try.ntmps93
  go_wp2_with fail
  go_loopw [8] (fun i wr => ∃ j : Nat, j ≤ 3 ∧ i = .int .i64 j ∧ (∀ k v, k < j → l[k]? = some v → v = 0) ∧ wr = w) (fun i _ => 3 - (intOf i).toNat)
  case atStart => exact ⟨0, by omega, rfl, fun k v h => absurd h (by omega), rfl⟩
  case round =>
    obtain ⟨j, hj, rfl, hb, rfl⟩ := hrel
    have HB := Lib.hid hb
    clear hb
    by_cases hlt : j < 3
    · obtain ⟨u, hu, hl⟩ := HC.out j hlt
      have HL := Lib.hid hl
      have HLt := Lib.hid hlt
      have hji : (j : Int) < 3 := by omega
      have hj0 : (0 : Int) ≤ (j : Int) := by omega
      clear hl
      by_cases h0 : u = 0
      · obtain ⟨e1, n1⟩ := eq_facts h0
        have HX := Lib.hid h0
        clear h0
        go_wp2_with fail
        go_roundw
        case rel => exact ⟨j + 1, HLt.out, by go_num, fun k v hk hv => by
          rcases Nat.lt_or_eq_of_le (Nat.lt_succ_iff.1 hk) with h | h
          · exact HB.out k v h hv
          · subst h
            have h1 := HL.out
            rw [hv] at h1
            rw [Option.some.inj h1]; exact HX.out, trivial⟩
        case measure => simp [intOf]; have := HLt.out; omega
      · obtain ⟨e1, n1⟩ := ne_facts h0
        have HV := Lib.hid (HO.out j u HL.out HB.out h0)
        clear h0
        go_wp2_with fail
        go_ret
        exact ⟨by rw [HV.out]; rfl, rfl⟩
    · obtain rfl : j = 3 := by omega
      have HV := Lib.hid (HZ.out HB.out)
      go_wp2_with fail
      go_ret
      exact ⟨by rw [HV.out]; rfl, rfl⟩
def ordI (a b : Gr) : Int := orI (cmpI a.page b.page) (cmpI a.slot b.slot) (cmpI a.tx b.tx)
theorem ordI_neg {a b : Gr} : ordI a b < 0 ↔ GLt a b := by
  have h1 := @cmpI_zero a.page b.page
  have h2 := @cmpI_zero a.slot b.slot
  have n1 := @cmpI_neg a.page b.page
  have n2 := @cmpI_neg a.slot b.slot
  have n3 := @cmpI_neg a.tx b.tx
  unfold ordI orI GLt
  split
  · split <;> omega
  · omega
theorem ordI_zero {a b : Gr} : ordI a b = 0 ↔ (a.tx = b.tx ∧ a.page = b.page ∧ a.slot = b.slot) := by
  have h1 := @cmpI_zero a.page b.page
  have h2 := @cmpI_zero a.slot b.slot
  have h3 := @cmpI_zero a.tx b.tx
  unfold ordI orI
  split
  · split <;> omega
  · omega
end Go.Proofs.Ytooaldglgkjjgaa
/- the program's order of grants (locks) -/
namespace Go.Proofs.Ytooaldglgkjjgaa
open Go.RowKit
set_option maxRecDepth 20000
set_option linter.unusedSimpArgs false
set_option linter.unusedVariables false

theorem compare_b (x y : Int) (W : World) : Calls Try.prog 94 #[.int .i64 x, .int .i64 y] W fun e w' => e = .returned (.int .i64 (cmpI x y)) ∧ Below W.heap.size W w' :=
  (compare_any x y W).mono fun e w' h => ⟨h.1, by rw [h.2]; exact Below.refl _ _⟩
theorem or3_b (x y z : Int) (b : Nat) (w : World) (h0 : w.cell? ⟨b, 0, none⟩ = some (.int .i64 x)) (h1 : w.cell? ⟨b, 1, none⟩ = some (.int .i64 y)) (h2 : w.cell? ⟨b, 2, none⟩ = some (.int .i64 z)) :
    Calls Try.prog 93 #[.slice (some ⟨b, 0, none⟩) 3 3] w fun e w' => e = .returned (.int .i64 (orI x y z)) ∧ Below w.heap.size w w' :=
  (or3_any x y z b w h0 h1 h2).mono fun e w' h => ⟨h.1, by rw [h.2]; exact Below.refl _ _⟩
set_option maxHeartbeats 4000000 in
theorem order_any (a b : Gr) (w : World) : Calls Try.prog 77 #[.agg (grCells a).toArray, .agg (grCells b).toArray] w fun e w' => e = .returned (.int .i64 (ordI a b)) ∧ Below w.heap.size w w' := by
  have h1 := ((Hp.start w).put 29 (grCells a)).put 29 (grCells b)
  simp only [World.size_alloc, List.nil_append, List.cons_append] at h1
  have HS0 : Hid (Hp w [.ob w.heap.size 29 (grCells a), .ob (w.heap.size + 1) 29 (grCells b)] ((w.alloc (.cells (grCells a).toArray 29)).alloc (.cells (grCells b).toArray 29))) := h1
  clear h1
  have HV : Hid (ordI a b = orI (cmpI a.page b.page) (cmpI a.slot b.slot) (cmpI a.tx b.tx)) := rfl
  have HUI : Hid (Try.prog.underlying 38 = some (.slice 3)) := Try.underlying38
  go_enter Try.func77, Try.ntmps77
  go_upto_region 1 with (fail)
  generalize ((w.alloc (.cells (grCells a).toArray 29)).alloc (.cells (grCells b).toArray 29)) = w1 at *
  generalize w.heap.size + 1 = k2 at *
  refine wp_region_held_drew (S := fun w' => w'.rangeAt w.heap.size 0 (grCells a) ∧ w'.rangeAt k2 0 (grCells b)) (by kernel_rfl) (⟨(fun j v hv => by rw [Nat.zero_add]; exact ((HS0.out).drew).at 0 rfl j hv), (fun j v hv => by rw [Nat.zero_add]; exact ((HS0.out).drew).at 1 rfl j hv)⟩) (fun hHeld => ?_)
  refine wpAnyH_take (i := 0) (oi := { dst := some 5, op := Op.fieldAddr 29 (Operand.tmp 2) 1, type := 0, pos := "locks.go:13", after := #[], guard := none }) (v := ?q1v) rfl (by kernel_rfl) (by kernel_rfl) (by kernel_rfl) (fun _ _ _ h => h) (Or.inl ⟨by rfl, ?q1h⟩) hHeld ?q1r
  case q1h => (intro wq hSw; clear hSw; go_simp; try with_reducible rfl)
  try simp only [Act.put, List.setIfInBounds_toArray, List.set_cons_zero, List.set_cons_succ]
  refine wpAnyH_take (i := 1) (oi := { dst := some 6, op := Op.fieldAddr 27 (Operand.tmp 5) 0, type := 0, pos := "locks.go:13", after := #[{ on := 0, ground := Ground.data }], guard := none }) (v := ?q2v) rfl (by kernel_rfl) (by kernel_rfl) (by kernel_rfl) (fun _ _ _ h => h) (Or.inl ⟨by rfl, ?q2h⟩) hHeld ?q2r
  case q2h => (intro wq hSw; clear hSw; go_simp; try with_reducible rfl)
  try simp only [Act.put, List.setIfInBounds_toArray, List.set_cons_zero, List.set_cons_succ]
  refine wpAnyH_take (i := 2) (oi := { dst := some 7, op := Op.load 3 (Operand.tmp 6), type := 3, pos := "locks.go:13", after := #[{ on := 1, ground := Ground.data }], guard := none }) (v := .int .i64 a.page) rfl (by kernel_rfl) (by kernel_rfl) (by kernel_rfl) (fun _ _ _ h => h) (Or.inl ⟨by rfl, ?q3h⟩) hHeld ?q3r
  case q3h => (intro wq hSw; have lq := (hSw.1) 1 (.int .i64 a.page) rfl; simp only [Nat.zero_add] at lq; clear hSw; go_simp; try with_reducible rfl)
  try simp only [Act.put, List.setIfInBounds_toArray, List.set_cons_zero, List.set_cons_succ]
  refine wpAnyH_take (i := 3) (oi := { dst := some 8, op := Op.fieldAddr 29 (Operand.tmp 3) 1, type := 0, pos := "locks.go:13", after := #[], guard := none }) (v := ?q4v) rfl (by kernel_rfl) (by kernel_rfl) (by kernel_rfl) (fun _ _ _ h => h) (Or.inl ⟨by rfl, ?q4h⟩) hHeld ?q4r
  case q4h => (intro wq hSw; clear hSw; go_simp; try with_reducible rfl)
  try simp only [Act.put, List.setIfInBounds_toArray, List.set_cons_zero, List.set_cons_succ]
  refine wpAnyH_take (i := 4) (oi := { dst := some 9, op := Op.fieldAddr 27 (Operand.tmp 8) 0, type := 0, pos := "locks.go:13", after := #[{ on := 3, ground := Ground.data }], guard := none }) (v := ?q5v) rfl (by kernel_rfl) (by kernel_rfl) (by kernel_rfl) (fun _ _ _ h => h) (Or.inl ⟨by rfl, ?q5h⟩) hHeld ?q5r
  case q5h => (intro wq hSw; clear hSw; go_simp; try with_reducible rfl)
  try simp only [Act.put, List.setIfInBounds_toArray, List.set_cons_zero, List.set_cons_succ]
  refine wpAnyH_take (i := 5) (oi := { dst := some 10, op := Op.load 3 (Operand.tmp 9), type := 3, pos := "locks.go:13", after := #[{ on := 4, ground := Ground.data }], guard := none }) (v := .int .i64 b.page) rfl (by kernel_rfl) (by kernel_rfl) (by kernel_rfl) (fun _ _ _ h => h) (Or.inl ⟨by rfl, ?q6h⟩) hHeld ?q6r
  case q6h => (intro wq hSw; have lq := (hSw.2) 1 (.int .i64 b.page) rfl; simp only [Nat.zero_add] at lq; clear hSw; go_simp; try with_reducible rfl)
  try simp only [Act.put, List.setIfInBounds_toArray, List.set_cons_zero, List.set_cons_succ]
  refine wpAnyH_take (i := 7) (oi := { dst := some 12, op := Op.fieldAddr 29 (Operand.tmp 2) 1, type := 0, pos := "locks.go:13", after := #[], guard := none }) (v := ?q7v) rfl (by kernel_rfl) (by kernel_rfl) (by kernel_rfl) (fun _ _ _ h => h) (Or.inl ⟨by rfl, ?q7h⟩) hHeld ?q7r
  case q7h => (intro wq hSw; clear hSw; go_simp; try with_reducible rfl)
  try simp only [Act.put, List.setIfInBounds_toArray, List.set_cons_zero, List.set_cons_succ]
  refine wpAnyH_take (i := 8) (oi := { dst := some 13, op := Op.fieldAddr 27 (Operand.tmp 12) 1, type := 0, pos := "locks.go:13", after := #[{ on := 7, ground := Ground.data }], guard := none }) (v := ?q8v) rfl (by kernel_rfl) (by kernel_rfl) (by kernel_rfl) (fun _ _ _ h => h) (Or.inl ⟨by rfl, ?q8h⟩) hHeld ?q8r
  case q8h => (intro wq hSw; clear hSw; go_simp; try with_reducible rfl)
  try simp only [Act.put, List.setIfInBounds_toArray, List.set_cons_zero, List.set_cons_succ]
  refine wpAnyH_take (i := 9) (oi := { dst := some 14, op := Op.load 3 (Operand.tmp 13), type := 3, pos := "locks.go:13", after := #[{ on := 8, ground := Ground.data }], guard := none }) (v := .int .i64 a.slot) rfl (by kernel_rfl) (by kernel_rfl) (by kernel_rfl) (fun _ _ _ h => h) (Or.inl ⟨by rfl, ?q9h⟩) hHeld ?q9r
  case q9h => (intro wq hSw; have lq := (hSw.1) 2 (.int .i64 a.slot) rfl; simp only [Nat.zero_add] at lq; clear hSw; go_simp; try with_reducible rfl)
  try simp only [Act.put, List.setIfInBounds_toArray, List.set_cons_zero, List.set_cons_succ]
  refine wpAnyH_take (i := 10) (oi := { dst := some 15, op := Op.fieldAddr 29 (Operand.tmp 3) 1, type := 0, pos := "locks.go:13", after := #[], guard := none }) (v := ?q10v) rfl (by kernel_rfl) (by kernel_rfl) (by kernel_rfl) (fun _ _ _ h => h) (Or.inl ⟨by rfl, ?q10h⟩) hHeld ?q10r
  case q10h => (intro wq hSw; clear hSw; go_simp; try with_reducible rfl)
  try simp only [Act.put, List.setIfInBounds_toArray, List.set_cons_zero, List.set_cons_succ]
  refine wpAnyH_take (i := 11) (oi := { dst := some 16, op := Op.fieldAddr 27 (Operand.tmp 15) 1, type := 0, pos := "locks.go:13", after := #[{ on := 10, ground := Ground.data }], guard := none }) (v := ?q11v) rfl (by kernel_rfl) (by kernel_rfl) (by kernel_rfl) (fun _ _ _ h => h) (Or.inl ⟨by rfl, ?q11h⟩) hHeld ?q11r
  case q11h => (intro wq hSw; clear hSw; go_simp; try with_reducible rfl)
  try simp only [Act.put, List.setIfInBounds_toArray, List.set_cons_zero, List.set_cons_succ]
  refine wpAnyH_take (i := 12) (oi := { dst := some 17, op := Op.load 3 (Operand.tmp 16), type := 3, pos := "locks.go:13", after := #[{ on := 11, ground := Ground.data }], guard := none }) (v := .int .i64 b.slot) rfl (by kernel_rfl) (by kernel_rfl) (by kernel_rfl) (fun _ _ _ h => h) (Or.inl ⟨by rfl, ?q12h⟩) hHeld ?q12r
  case q12h => (intro wq hSw; have lq := (hSw.2) 2 (.int .i64 b.slot) rfl; simp only [Nat.zero_add] at lq; clear hSw; go_simp; try with_reducible rfl)
  try simp only [Act.put, List.setIfInBounds_toArray, List.set_cons_zero, List.set_cons_succ]
  refine wpAnyH_take (i := 14) (oi := { dst := some 19, op := Op.fieldAddr 29 (Operand.tmp 2) 0, type := 0, pos := "locks.go:13", after := #[], guard := none }) (v := ?q13v) rfl (by kernel_rfl) (by kernel_rfl) (by kernel_rfl) (fun _ _ _ h => h) (Or.inl ⟨by rfl, ?q13h⟩) hHeld ?q13r
  case q13h => (intro wq hSw; clear hSw; go_simp; try with_reducible rfl)
  try simp only [Act.put, List.setIfInBounds_toArray, List.set_cons_zero, List.set_cons_succ]
  refine wpAnyH_take (i := 15) (oi := { dst := some 20, op := Op.load 3 (Operand.tmp 19), type := 3, pos := "locks.go:13", after := #[{ on := 14, ground := Ground.data }], guard := none }) (v := .int .i64 a.tx) rfl (by kernel_rfl) (by kernel_rfl) (by kernel_rfl) (fun _ _ _ h => h) (Or.inl ⟨by rfl, ?q14h⟩) hHeld ?q14r
  case q14h => (intro wq hSw; have lq := (hSw.1) 0 (.int .i64 a.tx) rfl; simp only [Nat.zero_add] at lq; clear hSw; go_simp; try with_reducible rfl)
  try simp only [Act.put, List.setIfInBounds_toArray, List.set_cons_zero, List.set_cons_succ]
  refine wpAnyH_take (i := 16) (oi := { dst := some 21, op := Op.fieldAddr 29 (Operand.tmp 3) 0, type := 0, pos := "locks.go:13", after := #[], guard := none }) (v := ?q15v) rfl (by kernel_rfl) (by kernel_rfl) (by kernel_rfl) (fun _ _ _ h => h) (Or.inl ⟨by rfl, ?q15h⟩) hHeld ?q15r
  case q15h => (intro wq hSw; clear hSw; go_simp; try with_reducible rfl)
  try simp only [Act.put, List.setIfInBounds_toArray, List.set_cons_zero, List.set_cons_succ]
  refine wpAnyH_take (i := 17) (oi := { dst := some 22, op := Op.load 3 (Operand.tmp 21), type := 3, pos := "locks.go:13", after := #[{ on := 16, ground := Ground.data }], guard := none }) (v := .int .i64 b.tx) rfl (by kernel_rfl) (by kernel_rfl) (by kernel_rfl) (fun _ _ _ h => h) (Or.inl ⟨by rfl, ?q16h⟩) hHeld ?q16r
  case q16h => (intro wq hSw; have lq := (hSw.2) 0 (.int .i64 b.tx) rfl; simp only [Nat.zero_add] at lq; clear hSw; go_simp; try with_reducible rfl)
  try simp only [Act.put, List.setIfInBounds_toArray, List.set_cons_zero, List.set_cons_succ]
  refine wpAnyH_ready (rs := [6]) (by kernel_rfl) (by simp) ?_
  refine AllReadyH.cons (o := { dst := some 11, op := Op.call { callee := Callee.value (Operand.func 94), args := #[Operand.tmp 7, Operand.tmp 10], argTypes := #[3, 3] }, type := 3, pos := "locks.go:13", after := #[{ on := 2, ground := Ground.data }, { on := 5, ground := Ground.data }], guard := none }) rfl (fun K hK => ?_) (AllReadyH.nil)
  go_simp
  go_wp2_with (go_at_call 94; refine (compare_b _ _ _).mono ?_; rintro e w2 ⟨rfl, hb⟩)
  have HS1 : Hid (Hp w [.ob (w.heap.size) 29 (grCells a), .ob k2 29 (grCells b)] w2) := ((HS0.out).drew).calls hb
  refine hK.out _ _ (⟨(fun j v hv => by rw [Nat.zero_add]; exact (HS1.out).at 0 rfl j hv), (fun j v hv => by rw [Nat.zero_add]; exact (HS1.out).at 1 rfl j hv)⟩) (fun hHeld => ?_)
  clear hK K hb
  try simp only [Act.put, List.setIfInBounds_toArray, List.set_cons_zero, List.set_cons_succ]
  refine wpAnyH_ready (rs := [13]) (by kernel_rfl) (by simp) ?_
  refine AllReadyH.cons (o := { dst := some 18, op := Op.call { callee := Callee.value (Operand.func 94), args := #[Operand.tmp 14, Operand.tmp 17], argTypes := #[3, 3] }, type := 3, pos := "locks.go:13", after := #[{ on := 9, ground := Ground.data }, { on := 12, ground := Ground.data }, { on := 6, ground := Ground.chain }], guard := none }) rfl (fun K hK => ?_) (AllReadyH.nil)
  go_simp
  go_wp2_with (go_at_call 94; refine (compare_b _ _ _).mono ?_; rintro e w3 ⟨rfl, hb⟩)
  have HS2 : Hid (Hp w [.ob (w.heap.size) 29 (grCells a), .ob k2 29 (grCells b)] w3) := (HS1.out).calls hb
  refine hK.out _ _ (⟨(fun j v hv => by rw [Nat.zero_add]; exact (HS2.out).at 0 rfl j hv), (fun j v hv => by rw [Nat.zero_add]; exact (HS2.out).at 1 rfl j hv)⟩) (fun hHeld => ?_)
  clear hK K hb
  try simp only [Act.put, List.setIfInBounds_toArray, List.set_cons_zero, List.set_cons_succ]
  refine wpAnyH_ready (rs := [18]) (by kernel_rfl) (by simp) ?_
  refine AllReadyH.cons (o := { dst := some 23, op := Op.call { callee := Callee.value (Operand.func 94), args := #[Operand.tmp 20, Operand.tmp 22], argTypes := #[3, 3] }, type := 3, pos := "locks.go:13", after := #[{ on := 15, ground := Ground.data }, { on := 17, ground := Ground.data }, { on := 13, ground := Ground.chain }], guard := none }) rfl (fun K hK => ?_) (AllReadyH.nil)
  go_simp
  go_wp2_with (go_at_call 94; refine (compare_b _ _ _).mono ?_; rintro e w4 ⟨rfl, hb⟩)
  have HS3 : Hid (Hp w [.ob (w.heap.size) 29 (grCells a), .ob k2 29 (grCells b)] w4) := (HS2.out).calls hb
  refine hK.out _ _ (⟨(fun j v hv => by rw [Nat.zero_add]; exact (HS3.out).at 0 rfl j hv), (fun j v hv => by rw [Nat.zero_add]; exact (HS3.out).at 1 rfl j hv)⟩) (fun hHeld => ?_)
  clear hK K hb
  try simp only [Act.put, List.setIfInBounds_toArray, List.set_cons_zero, List.set_cons_succ]
  refine wpAnyH_ready (rs := [19]) (by kernel_rfl) (by simp) ?_
  refine AllReadyH.cons (o := { dst := some 24, op := Op.buildSlice 38 3 #[(0, Operand.tmp 11), (1, Operand.tmp 18), (2, Operand.tmp 23)], type := 38, pos := "locks.go:13", after := #[{ on := 6, ground := Ground.data }, { on := 13, ground := Ground.data }, { on := 18, ground := Ground.data }], guard := none }) rfl (fun K hK => ?_) (AllReadyH.nil)
  rw [if_pos (by rfl)]
  refine wp_build_vals rfl elem_i HUI.out [.int .i64 (cmpI a.page b.page), .int .i64 (cmpI a.slot b.slot), .int .i64 (cmpI a.tx b.tx)] (by intro v hv; simp only [List.mem_cons, List.not_mem_nil, or_false] at hv; rcases hv with rfl | rfl | rfl <;> rfl) (Nat.succ_pos _) (by simp only [List.length_cons, List.length_nil]; omega) rfl (by simp only [List.map_toArray, List.map_cons, List.map_nil, List.zipIdx_cons, List.zipIdx_nil]; exact rfl) ?_
  have HS4 : Hid (Hp w [.ob (w.heap.size) 29 (grCells a), .ob k2 29 (grCells b), .ob (w4.heap.size) 3 ([.int .i64 (cmpI a.page b.page), .int .i64 (cmpI a.slot b.slot), .int .i64 (cmpI a.tx b.tx)])] (w4.alloc (.cells ([.int .i64 (cmpI a.page b.page), .int .i64 (cmpI a.slot b.slot), .int .i64 (cmpI a.tx b.tx)]).toArray 3))) := (HS3.out).put 3 ([.int .i64 (cmpI a.page b.page), .int .i64 (cmpI a.slot b.slot), .int .i64 (cmpI a.tx b.tx)])
  refine hK.out _ _ (⟨(fun j v hv => by rw [Nat.zero_add]; exact (HS4.out).at 0 rfl j hv), (fun j v hv => by rw [Nat.zero_add]; exact (HS4.out).at 1 rfl j hv)⟩) (fun hHeld => ?_)
  clear hK K
  generalize (w4.alloc (.cells ([.int .i64 (cmpI a.page b.page), .int .i64 (cmpI a.slot b.slot), .int .i64 (cmpI a.tx b.tx)]).toArray 3)) = w5 at *
  generalize w4.heap.size = B1 at *
  try simp only [Act.put, List.setIfInBounds_toArray, List.set_cons_zero, List.set_cons_succ]
  refine wpAnyH_ready (rs := [20]) (by kernel_rfl) (by simp) ?_
  refine AllReadyH.cons (o := { dst := some 25, op := Op.call { callee := Callee.value (Operand.func 93), args := #[Operand.tmp 24], argTypes := #[38] }, type := 3, pos := "locks.go:13", after := #[{ on := 19, ground := Ground.data }, { on := 18, ground := Ground.chain }], guard := none }) rfl (fun K hK => ?_) (AllReadyH.nil)
  go_simp
  go_wp2_with (go_at_call 93; refine (or3_b _ _ _ B1 _ ((HS4.out).at 2 rfl 0 rfl) ((HS4.out).at 2 rfl 1 rfl) ((HS4.out).at 2 rfl 2 rfl)).mono ?_; rintro e w6 ⟨rfl, hb⟩)
  have HS5 : Hid (Hp w [.ob (w.heap.size) 29 (grCells a), .ob k2 29 (grCells b), .ob B1 3 ([.int .i64 (cmpI a.page b.page), .int .i64 (cmpI a.slot b.slot), .int .i64 (cmpI a.tx b.tx)])] w6) := (HS4.out).calls hb
  refine hK.out _ _ (⟨(fun j v hv => by rw [Nat.zero_add]; exact (HS5.out).at 0 rfl j hv), (fun j v hv => by rw [Nat.zero_add]; exact (HS5.out).at 1 rfl j hv)⟩) (fun hHeld => ?_)
  clear hK K hb
  try simp only [Act.put, List.setIfInBounds_toArray, List.set_cons_zero, List.set_cons_succ]
  refine wpAnyH_take (i := 21) (oi := { dst := some 4, op := Op.assign (Operand.tmp 25), type := 3, pos := "locks.go:13", after := #[{ on := 20, ground := Ground.data }, { on := 20, ground := Ground.chain }, { on := 0, ground := Ground.phase }, { on := 1, ground := Ground.phase }, { on := 2, ground := Ground.phase }, { on := 3, ground := Ground.phase }, { on := 4, ground := Ground.phase }, { on := 5, ground := Ground.phase }, { on := 6, ground := Ground.phase }, { on := 7, ground := Ground.phase }, { on := 8, ground := Ground.phase }, { on := 9, ground := Ground.phase }, { on := 10, ground := Ground.phase }, { on := 11, ground := Ground.phase }, { on := 12, ground := Ground.phase }, { on := 13, ground := Ground.phase }, { on := 14, ground := Ground.phase }, { on := 15, ground := Ground.phase }, { on := 16, ground := Ground.phase }, { on := 17, ground := Ground.phase }, { on := 18, ground := Ground.phase }, { on := 19, ground := Ground.phase }, { on := 20, ground := Ground.phase }], guard := none }) (v := ?q17v) rfl (by kernel_rfl) (by kernel_rfl) (by kernel_rfl) (fun _ _ _ h => h) (Or.inl ⟨by rfl, ?q17h⟩) hHeld ?q17r
  case q17h => (intro wq hSw; clear hSw; go_simp; try with_reducible rfl)
  try simp only [Act.put, List.setIfInBounds_toArray, List.set_cons_zero, List.set_cons_succ]
  refine wpAnyH_done (by kernel_rfl) ?_ _
  clear hHeld
  go_wp2_with fail
  go_ret
  exact ⟨by rw [HV.out]; rfl, (HS5.out).old⟩
end Go.Proofs.Ytooaldglgkjjgaa
/- the program's order, conflicts, validity, and what finds grants (locks) -/
namespace Go.Proofs.Ytooaldglgkjjgaa
open Go.RowKit
set_option maxRecDepth 20000
set_option linter.unusedSimpArgs false
set_option linter.unusedVariables false

set_option maxHeartbeats 4000000 in
theorem pconflict_any (a b : Gr) (w : World) (ha : GoodGr a) (hb : GoodGr b) : Calls Try.prog 78 #[.agg (grCells a).toArray, .agg (grCells b).toArray] w fun e w' => e = .returned (.bool (confB a b)) ∧ Below w.heap.size w w' := by
  have HB : Hid (∀ cs ds, Below w.heap.size w ((w.alloc (.cells cs 29)).alloc (.cells ds 29))) := fun cs ds => ((Below.refl _ _).alloc (Nat.le_refl _) _).alloc (by simp) _
  have hq : ∀ W, Sem.run Try.prog (binOp .eql 27 (.agg #[.int .i64 a.page, .int .i64 a.slot]) (.agg #[.int .i64 b.page, .int .i64 b.slot])) W = .ok (.bool (sameV a.lock b.lock)) W := fun W => run_eql (equal_lk a.lock b.lock ha.lock hb.lock) W
  have hs : sameV a.lock b.lock = (decide (a.page = b.page) && decide (a.slot = b.slot)) := by
    rw [Bool.eq_iff_iff, sameV_iff, Bool.and_eq_true, decide_eq_true_eq, decide_eq_true_eq]
    exact ⟨fun h => ⟨congrArg Lok.page h, congrArg Lok.slot h⟩, fun h => by show Lok.mk _ _ = Lok.mk _ _; rw [h.1, h.2]⟩
  clear ha hb
  unfold grCells
  generalize sameV a.lock b.lock = q at *
  by_cases h1 : a.tx = b.tx
  · obtain ⟨e1, n1⟩ := eq_facts h1
    have HV : Hid (confB a b = false) := Lib.hid (by unfold confB; simp [h1])
    clear h1 hs
    go_enter Try.func78, Try.ntmps78
    go_wp2
    go_ret
    exact ⟨ret_bool (by rw [HV.out]), HB.out _ _⟩
  · obtain ⟨e1, n1⟩ := ne_facts h1
    cases q
    · have HV : Hid (confB a b = false) := Lib.hid (by unfold confB; have := hs.symm; simp only [Bool.and_eq_false_iff, decide_eq_false_iff_not] at this; rcases this with h | h <;> simp [h])
      clear h1 hs
      go_enter Try.func78, Try.ntmps78
      go_wp2
      go_ret
      exact ⟨ret_bool (by rw [HV.out]), HB.out _ _⟩
    · have hs2 := hs.symm
      simp only [Bool.and_eq_true, decide_eq_true_eq] at hs2
      by_cases h2 : a.mode = 2
      · obtain ⟨e2, n2⟩ := eq_facts h2
        have HV : Hid (confB a b = true) := Lib.hid (by unfold confB; simp [h1, hs2.1, hs2.2, h2])
        clear h1 hs hs2 h2
        go_enter Try.func78, Try.ntmps78
        go_wp2
        go_ret
        exact ⟨ret_bool (by rw [HV.out]), HB.out _ _⟩
      · obtain ⟨e2, n2⟩ := ne_facts h2
        have HV : Hid (confB a b = (b.mode == 2)) := Lib.hid (by unfold confB; simp [h1, hs2.1, hs2.2, h2, beq_dec'])
        clear h1 hs hs2 h2
        go_enter Try.func78, Try.ntmps78
        go_wp2
        go_ret
        exact ⟨ret_bool (by rw [HV.out]), HB.out _ _⟩
set_option maxHeartbeats 8000000 in
theorem pgrant_any (g : Gr) (w : World) : Calls Try.prog 43 #[.agg (grCells g).toArray] w fun e w' => e = .returned (.bool (grOkB g)) ∧ Below w.heap.size w w' := by
  have HB : Hid (∀ cs, Below w.heap.size w (w.alloc (.cells cs 29))) := fun cs => (Below.refl _ _).alloc (Nat.le_refl _) _
  have HV : Hid (grOkB g = (decide (1 ≤ g.tx) && (decide (g.tx ≤ 1073741824) && (decide (0 ≤ g.page) && (decide (g.page < 64) && (decide (0 ≤ g.slot) && (decide (g.slot < 16) && (decide (g.mode = 1) || decide (g.mode = 2))))))))) := rfl
  have m1 := beq_dec' g.mode 1
  have m2 := beq_dec' g.mode 2
  unfold grCells
  obtain ⟨p0, hp0⟩ : ∃ p, decide (1 ≤ g.tx) = p := ⟨_, rfl⟩
  obtain ⟨p1, hp1⟩ : ∃ p, decide (g.tx ≤ 1073741824) = p := ⟨_, rfl⟩
  obtain ⟨p2, hp2⟩ : ∃ p, decide (0 ≤ g.page) = p := ⟨_, rfl⟩
  obtain ⟨p3, hp3⟩ : ∃ p, decide (g.page < 64) = p := ⟨_, rfl⟩
  obtain ⟨p4, hp4⟩ : ∃ p, decide (0 ≤ g.slot) = p := ⟨_, rfl⟩
  obtain ⟨p5, hp5⟩ : ∃ p, decide (g.slot < 16) = p := ⟨_, rfl⟩
  obtain ⟨p6, hp6⟩ : ∃ p, decide (g.mode = 1) = p := ⟨_, rfl⟩
  obtain ⟨p7, hp7⟩ : ∃ p, decide (g.mode = 2) = p := ⟨_, rfl⟩
  simp only [hp0, hp1, hp2, hp3, hp4, hp5, hp6, hp7] at HV m1 m2
  cases p0
  · go_enter Try.func43, Try.ntmps43
    go_wp2
    go_ret
    exact ⟨ret_bool (by rw [HV.out]; first | rfl | simp), HB.out _⟩
  · skip
    cases p1
    · go_enter Try.func43, Try.ntmps43
      go_wp2
      go_ret
      exact ⟨ret_bool (by rw [HV.out]; first | rfl | simp), HB.out _⟩
    · skip
      cases p2
      · go_enter Try.func43, Try.ntmps43
        go_wp2
        go_ret
        exact ⟨ret_bool (by rw [HV.out]; first | rfl | simp), HB.out _⟩
      · skip
        cases p3
        · go_enter Try.func43, Try.ntmps43
          go_wp2
          go_ret
          exact ⟨ret_bool (by rw [HV.out]; first | rfl | simp), HB.out _⟩
        · skip
          cases p4
          · go_enter Try.func43, Try.ntmps43
            go_wp2
            go_ret
            exact ⟨ret_bool (by rw [HV.out]; first | rfl | simp), HB.out _⟩
          · skip
            cases p5
            · go_enter Try.func43, Try.ntmps43
              go_wp2
              go_ret
              exact ⟨ret_bool (by rw [HV.out]; first | rfl | simp), HB.out _⟩
            · skip
              cases p6
              · go_enter Try.func43, Try.ntmps43
                go_wp2
                go_ret
                exact ⟨ret_bool (by rw [HV.out]; first | rfl | simp), HB.out _⟩
              · go_enter Try.func43, Try.ntmps43
                go_wp2
                go_ret
                exact ⟨ret_bool (by rw [HV.out]; first | rfl | simp), HB.out _⟩
def GrFn (g : Nat) (lb : Array Value) (p : Gr → Bool) (l : List Gr) (w : World) : Prop :=
  ∀ W x, x ∈ l → Below w.heap.size w W → Calls Try.prog g (#[.agg (grCells x).toArray] ++ lb) W fun e w' => e = .returned (.bool (p x)) ∧ Below W.heap.size W w'
def GrAt (g : Nat) (lb : Array Value) (p : Gr → Bool) (l : List Gr) (R : List Rng) : Prop :=
  ∀ W x, x ∈ l → RdIn W R → Calls Try.prog g (#[.agg (grCells x).toArray] ++ lb) W fun e w' => e = .returned (.bool (p x)) ∧ Below W.heap.size W w'
theorem GrAt.fn {g : Nat} {lb : Array Value} {p : Gr → Bool} {l : List Gr} {R : List Rng} {w : World} (h : GrAt g lb p l R) (hR : RdIn w R) : GrFn g lb p l w := fun W x hx hb => h W x hx (hR.below hb)
def EntersF (g : Nat) : Prop := ∀ args w, (callFunc g args).run Try.prog w = .ok (.enter g args) w
theorem eg_of : EntersF 69 := enters_of Try.func69 (by kernel_rfl) rfl
theorem eg_against : EntersF 90 := enters_of Try.func90 (by kernel_rfl) rfl
theorem eg_drop : EntersF 41 := enters_of Try.func41 (by kernel_rfl) rfl
set_option maxHeartbeats 4000000 in
theorem of_at (tx : Int) (b : Nat) (l : List Gr) : GrAt 69 #[.pointer (some ⟨b, 0, none⟩)] (fun x => decide (x.tx = tx)) l [(b, 0, [.int .i64 tx])] := by
  intro W x hx hR
  have hb := hR _ (List.mem_singleton.2 rfl)
  have c0 : W.cell? ⟨b, 0, none⟩ = some (.int .i64 tx) := hb.2 0 _ rfl
  have HV : Hid ((x.tx == tx) = decide (x.tx = tx)) := beq_dec' _ _
  have HLtb : Hid (b < W.heap.size) := (by have := hb.1; exact this)
  have h1 := (Hp.start W).put 29 (grCells x)
  have HS0 : Hid (Hp W [.ob W.heap.size 29 (grCells x)] (W.alloc (.cells #[.int .i64 x.tx, .int .i64 x.page, .int .i64 x.slot, .int .i64 x.mode] 29))) := h1
  clear h1
  clear hR hb
  show Calls Try.prog 69 #[.agg #[.int .i64 x.tx, .int .i64 x.page, .int .i64 x.slot, .int .i64 x.mode], .pointer (some ⟨b, 0, none⟩)] W _
  go_enter Try.func69, Try.ntmps69
  go_upto_region 1 with (fail)
  generalize (W.alloc (.cells #[.int .i64 x.tx, .int .i64 x.page, .int .i64 x.slot, .int .i64 x.mode] 29)) = w1 at *
  have x0 : w1.cell? ⟨W.heap.size, 0, none⟩ = some (.int .i64 x.tx) := HS0.out.at 0 rfl 0 rfl
  have x1 : w1.cell? ⟨W.heap.size, 1, none⟩ = some (.int .i64 x.page) := HS0.out.at 0 rfl 1 rfl
  have x2 : w1.cell? ⟨W.heap.size, 2, none⟩ = some (.int .i64 x.slot) := HS0.out.at 0 rfl 2 rfl
  have x3 : w1.cell? ⟨W.heap.size, 3, none⟩ = some (.int .i64 x.mode) := HS0.out.at 0 rfl 3 rfl
  have dc0 := (HS0.out.old.cell (p := ⟨b, 0, none⟩) HLtb.out).trans c0
  have HB := Lib.hid HS0.out.old
  clear HS0 c0
  go_wp2
  go_ret
  exact ⟨ret_bool HV.out, HB.out⟩
set_option maxHeartbeats 4000000 in
theorem against_at (g : Gr) (hg : GoodGr g) (b : Nat) (l : List Gr) (hl : ∀ x ∈ l, GoodGr x) : GrAt 90 #[.pointer (some ⟨b, 0, none⟩)] (fun x => confB g x) l [(b, 0, grCells g)] := by
  intro W x hx hR
  have hb := hR _ (List.mem_singleton.2 rfl)
  have c0 : W.cell? ⟨b, 0, none⟩ = some (.int .i64 g.tx) := hb.2 0 _ rfl
  have c1 : W.cell? ⟨b, 1, none⟩ = some (.int .i64 g.page) := hb.2 1 _ rfl
  have c2 : W.cell? ⟨b, 2, none⟩ = some (.int .i64 g.slot) := hb.2 2 _ rfl
  have c3 : W.cell? ⟨b, 3, none⟩ = some (.int .i64 g.mode) := hb.2 3 _ rfl
  have hc : ∀ V, Calls Try.prog 78 #[.agg #[.int .i64 g.tx, .int .i64 g.page, .int .i64 g.slot, .int .i64 g.mode], .agg #[.int .i64 x.tx, .int .i64 x.page, .int .i64 x.slot, .int .i64 x.mode]] V fun e w' => e = .returned (.bool (confB g x)) ∧ Below V.heap.size V w' := fun V => pconflict_any g x V hg (hl x hx)
  have HLtb : Hid (b < W.heap.size) := (by have := hb.1; exact this)
  have h1 := (Hp.start W).put 29 (grCells x)
  have HS0 : Hid (Hp W [.ob W.heap.size 29 (grCells x)] (W.alloc (.cells #[.int .i64 x.tx, .int .i64 x.page, .int .i64 x.slot, .int .i64 x.mode] 29))) := h1
  clear h1
  clear hR hb hg hl
  show Calls Try.prog 90 #[.agg #[.int .i64 x.tx, .int .i64 x.page, .int .i64 x.slot, .int .i64 x.mode], .pointer (some ⟨b, 0, none⟩)] W _
  go_enter Try.func90, Try.ntmps90
  go_upto_region 1 with (fail)
  generalize (W.alloc (.cells #[.int .i64 x.tx, .int .i64 x.page, .int .i64 x.slot, .int .i64 x.mode] 29)) = w1 at *
  have x0 : w1.cell? ⟨W.heap.size, 0, none⟩ = some (.int .i64 x.tx) := HS0.out.at 0 rfl 0 rfl
  have x1 : w1.cell? ⟨W.heap.size, 1, none⟩ = some (.int .i64 x.page) := HS0.out.at 0 rfl 1 rfl
  have x2 : w1.cell? ⟨W.heap.size, 2, none⟩ = some (.int .i64 x.slot) := HS0.out.at 0 rfl 2 rfl
  have x3 : w1.cell? ⟨W.heap.size, 3, none⟩ = some (.int .i64 x.mode) := HS0.out.at 0 rfl 3 rfl
  have dc0 := (HS0.out.old.cell (p := ⟨b, 0, none⟩) HLtb.out).trans c0
  have dc1 := (HS0.out.old.cell (p := ⟨b, 1, none⟩) HLtb.out).trans c1
  have dc2 := (HS0.out.old.cell (p := ⟨b, 2, none⟩) HLtb.out).trans c2
  have dc3 := (HS0.out.old.cell (p := ⟨b, 3, none⟩) HLtb.out).trans c3
  have HB := Lib.hid HS0.out.old
  clear HS0 c0 c1 c2 c3
  go_wp2_with (go_at_call 78; refine (hc _).mono ?_; rintro e w2 ⟨rfl, hb⟩)
  go_ret
  exact ⟨rfl, HB.out.trans (hb.mono HB.out.size)⟩
set_option maxHeartbeats 4000000 in
theorem drop_at (tx : Int) (k : Lok) (hk : GoodLk k) (b c : Nat) (l : List Gr) (hl : ∀ x ∈ l, GoodGr x) : GrAt 41 #[.pointer (some ⟨b, 0, none⟩), .pointer (some ⟨c, 0, none⟩)] (fun x => keyB x tx k.page k.slot) l [(b, 0, [.int .i64 tx]), (c, 0, lkCells k)] := by
  intro W x hx hR
  have hb := hR (b, 0, [.int .i64 tx]) (by simp)
  have hc := hR (c, 0, lkCells k) (by simp)
  have c0 : W.cell? ⟨b, 0, none⟩ = some (.int .i64 tx) := hb.2 0 _ rfl
  have k0 : W.cell? ⟨c, 0, none⟩ = some (.int .i64 k.page) := hc.2 0 _ rfl
  have k1 : W.cell? ⟨c, 1, none⟩ = some (.int .i64 k.slot) := hc.2 1 _ rfl
  have hq : ∀ W, Sem.run Try.prog (binOp .eql 27 (.agg #[.int .i64 x.page, .int .i64 x.slot]) (.agg #[.int .i64 k.page, .int .i64 k.slot])) W = .ok (.bool (sameV x.lock k)) W := fun W => run_eql (equal_lk x.lock k (hl x hx).lock hk) W
  have hs := lock_same x k
  have HLtb : Hid (b < W.heap.size) := (by have := hb.1; exact this)
  have HLtc : Hid (c < W.heap.size) := (by have := hc.1; exact this)
  have h1 := (Hp.start W).put 29 (grCells x)
  have HS0 : Hid (Hp W [.ob W.heap.size 29 (grCells x)] (W.alloc (.cells #[.int .i64 x.tx, .int .i64 x.page, .int .i64 x.slot, .int .i64 x.mode] 29))) := h1
  clear h1
  clear hR hb hc hk hl
  show Calls Try.prog 41 #[.agg #[.int .i64 x.tx, .int .i64 x.page, .int .i64 x.slot, .int .i64 x.mode], .pointer (some ⟨b, 0, none⟩), .pointer (some ⟨c, 0, none⟩)] W _
  by_cases h1 : x.tx = tx
  · obtain ⟨e1, n1⟩ := eq_facts h1
    have HV : Hid (keyB x tx k.page k.slot = sameV x.lock k) := Lib.hid (by unfold keyB; rw [hs]; simp [h1])
    generalize sameV x.lock k = q at *
    clear h1 hs
    go_enter Try.func41, Try.ntmps41
    go_upto_region 1 with (fail)
    generalize (W.alloc (.cells #[.int .i64 x.tx, .int .i64 x.page, .int .i64 x.slot, .int .i64 x.mode] 29)) = w1 at *
    have x0 : w1.cell? ⟨W.heap.size, 0, none⟩ = some (.int .i64 x.tx) := HS0.out.at 0 rfl 0 rfl
    have x1 : w1.cell? ⟨W.heap.size, 1, none⟩ = some (.int .i64 x.page) := HS0.out.at 0 rfl 1 rfl
    have x2 : w1.cell? ⟨W.heap.size, 2, none⟩ = some (.int .i64 x.slot) := HS0.out.at 0 rfl 2 rfl
    have x3 : w1.cell? ⟨W.heap.size, 3, none⟩ = some (.int .i64 x.mode) := HS0.out.at 0 rfl 3 rfl
    have dc0 := (HS0.out.old.cell (p := ⟨b, 0, none⟩) HLtb.out).trans c0
    have dk0 := (HS0.out.old.cell (p := ⟨c, 0, none⟩) HLtc.out).trans k0
    have dk1 := (HS0.out.old.cell (p := ⟨c, 1, none⟩) HLtc.out).trans k1
    have HB := Lib.hid HS0.out.old
    clear HS0 c0 k0 k1
    go_wp2
    go_ret
    exact ⟨ret_bool (by rw [HV.out]), HB.out⟩
  · obtain ⟨e1, n1⟩ := ne_facts h1
    have HV : Hid (keyB x tx k.page k.slot = false) := Lib.hid (by unfold keyB; simp [h1])
    clear h1 hs
    go_enter Try.func41, Try.ntmps41
    go_upto_region 1 with (fail)
    generalize (W.alloc (.cells #[.int .i64 x.tx, .int .i64 x.page, .int .i64 x.slot, .int .i64 x.mode] 29)) = w1 at *
    have x0 : w1.cell? ⟨W.heap.size, 0, none⟩ = some (.int .i64 x.tx) := HS0.out.at 0 rfl 0 rfl
    have x1 : w1.cell? ⟨W.heap.size, 1, none⟩ = some (.int .i64 x.page) := HS0.out.at 0 rfl 1 rfl
    have x2 : w1.cell? ⟨W.heap.size, 2, none⟩ = some (.int .i64 x.slot) := HS0.out.at 0 rfl 2 rfl
    have x3 : w1.cell? ⟨W.heap.size, 3, none⟩ = some (.int .i64 x.mode) := HS0.out.at 0 rfl 3 rfl
    have dc0 := (HS0.out.old.cell (p := ⟨b, 0, none⟩) HLtb.out).trans c0
    have dk0 := (HS0.out.old.cell (p := ⟨c, 0, none⟩) HLtc.out).trans k0
    have dk1 := (HS0.out.old.cell (p := ⟨c, 1, none⟩) HLtc.out).trans k1
    have HB := Lib.hid HS0.out.old
    clear HS0 c0 k0 k1
    go_wp2
    go_ret
    exact ⟨ret_bool (by rw [HV.out]), HB.out⟩
end Go.Proofs.Ytooaldglgkjjgaa
