/- texts of a claim, one after the other: the program's Valid and Last of a log, the program's New, Append, Force and Cut of a log, what reads, its spare cut off, is appended to: the whole is new, the program's Append of a log, a builder that nothing was written to, plain facts on CRC-32C: bit by bit, by half bytes, and that a change of up to four neighbouring bytes is noticed, operations on 32 bits, in the words of the walk, the walk of the checksum of the program: CRC-32C of the bytes -/
import Derived.Test.YtpmfdpkcnldpiaaDoorOm1
import Derived.ArgAppend
import Derived.Deep.CutBlock
import Derived.Lib.UnsafeStr
import Derived.Test.YtpmfdpkcnldpiaaDoorRows
import Derived.WalkKit
import Derived.WalkSpells
import Derived.WalkLawsBesides
import Derived.Lib.Hide
import Derived.Below
/- the program's Valid and Last of a log -/
namespace Go.Proofs.YtpmfdpkcnldpiaaDoor
open Go.RowKit
set_option maxRecDepth 20000
set_option linter.unusedSimpArgs false
set_option linter.unusedVariables false

set_option maxHeartbeats 8000000 in
theorem valid_lg {v : Value} {L : Lg} {R : List Rng} (w : World) (h : LgRd v L R) (hR : RdIn w R) (hg : GoodLg L) :
    Calls Tryd.prog 11 #[.agg (lgCells v L).toArray] w fun e w' => e = .returned (.bool (lgOkB L)) ∧ Below w.heap.size w w' := by
  have HIo : Hid (∀ W, Below w.heap.size w W → (0 ≤ L.first ∧ L.first ≤ 1099511627776) → L.ents.length ≤ 4096 → Calls Tryd.prog 18 #[.agg (lgCells v L).toArray] W fun e w' => e = .returned (.bool (ordB L.first L.ents)) ∧ Below W.heap.size W w') := fun W hb h1 h2 => inOrder_lg W h (hR.below hb) hg.ents h1 h2
  have HEn : Hid (∀ W, (0 ≤ L.first ∧ L.first ≤ 1099511627776) → L.ents.length ≤ 4096 → Calls Tryd.prog 12 #[.agg (lgCells v L).toArray] W fun e w' => e = .returned (.int .i64 (endI L)) ∧ Below W.heap.size W w') := fun W h1 h2 => end_lg W h h1 h2
  have HOk : Hid (lgOkB L = (firstB L.first && (decide ((L.ents.length : Int) ≤ 4096) && (ordB L.first L.ents && (decide (L.first - 1 ≤ L.dur) && decide (L.dur ≤ endI L)))))) := rfl
  have HF : Hid (firstB L.first = true → 1 ≤ L.first ∧ L.first ≤ 1099511627776) := fun h => by unfold firstB at h; simpa using h
  have HD := Lib.hid hg.few
  have hlen0 : (0 : Int) ≤ (L.ents.length : Int) := by omega
  obtain ⟨a, cap, rfl, hnc, hcm, _⟩ := SlRd.open h hR
  obtain ⟨fsHUG, huHUG⟩ := under_lg
  have HUG := Lib.hid huHUG
  clear huHUG
  have h1 := (Hp.start w).put 25 (lgCells (.slice a L.ents.length cap) L)
  have HS0 : Hid (Hp w [.ob w.heap.size 25 (lgCells (.slice a L.ents.length cap) L)] (w.alloc (.cells (lgCells (.slice a L.ents.length cap) L).toArray 25))) := h1
  clear h1
  clear h hR hg
  generalize hq1 : firstB L.first = q1 at *
  have HVf : Hid (∀ W, Calls Tryd.prog 17 #[.int .i64 L.first] W fun e w' => e = .returned (.bool q1) ∧ W = w') := fun W => hq1 ▸ validFirst_f L.first W
  clear hq1
  generalize ordB L.first L.ents = q3 at *
  go_enter Tryd.func11, Tryd.ntmps11
  go_upto_region 1 with (fail)
  cases q1
  case false =>
    have HX : Hid (lgOkB L = false) := by show _ = _; rw [HOk.out]; first | rfl | simp
    refine wp_region_held_drew (S := fun w' => w'.rangeAt w.heap.size 0 (lgCells (.slice a L.ents.length cap) L)) (by kernel_rfl) (fun j v hv => by rw [Nat.zero_add]; exact (HS0.out.drew).at 0 rfl j hv) (fun hHeld => ?_)
    refine wpAnyH_take (i := 0) (oi := { dst := some 3, op := Op.fieldAddr 25 (Operand.tmp 1) 0, type := 0, pos := "journal.go:26", after := #[], guard := none }) (v := ?q101v) rfl (by kernel_rfl) (by kernel_rfl) (by kernel_rfl) (fun _ _ _ h => h) (Or.inl ⟨by rfl, ?q101h⟩) hHeld ?q101r
    case q101h => (intro wq hSw; clear hSw; go_simp; try with_reducible rfl)
    try simp only [Act.put, List.setIfInBounds_toArray, List.set_cons_zero, List.set_cons_succ]
    refine wpAnyH_take (i := 1) (oi := { dst := some 4, op := Op.load 3 (Operand.tmp 3), type := 3, pos := "journal.go:26", after := #[{ on := 0, ground := Ground.data }], guard := none }) (v := ?q102v) rfl (by kernel_rfl) (by kernel_rfl) (by kernel_rfl) (fun _ _ _ h => h) (Or.inl ⟨by rfl, ?q102h⟩) hHeld ?q102r
    case q102h => (intro wq hSw; have hq := hSw 0 _ rfl; simp only [Nat.zero_add] at hq; clear hSw; go_simp; try with_reducible rfl)
    try simp only [Act.put, List.setIfInBounds_toArray, List.set_cons_zero, List.set_cons_succ]
    refine wpAnyH_ready (rs := [2]) (by kernel_rfl) (by simp) ?_
    refine AllReadyH.cons (o := { dst := some 5, op := Op.call { callee := Callee.value (Operand.func 17), args := #[Operand.tmp 4], argTypes := #[3] }, type := 4, pos := "journal.go:26", after := #[{ on := 1, ground := Ground.data }], guard := none }) rfl (fun K hK => ?_) (AllReadyH.nil)
    go_simp
    go_wp2_with (go_at_call 17; refine (HVf.out _).mono ?_; rintro e w21 ⟨rfl, rfl⟩)
    have HS21 : Hid (Hp w [.ob (w.heap.size) 25 (lgCells (.slice a L.ents.length cap) L)] ((w.alloc (.cells (lgCells (.slice a L.ents.length cap) L).toArray 25)).drew)) := (HS0.out).drew
    refine hK.out _ _ (fun j v hv => by rw [Nat.zero_add]; exact HS21.out.at 0 rfl j hv) (fun hHeld => ?_)
    clear hK K
    generalize ((w.alloc (.cells (lgCells (.slice a L.ents.length cap) L).toArray 25)).drew) = w22 at *
    try simp only [Act.put, List.setIfInBounds_toArray, List.set_cons_zero, List.set_cons_succ]
    refine wpAnyH_take (i := 3) (oi := { dst := some 6, op := Op.move (Operand.tmp 5), type := 4, pos := "journal.go:26", after := #[{ on := 2, ground := Ground.data }, { on := 2, ground := Ground.chain }], guard := none }) (v := ?q103v) rfl (by kernel_rfl) (by kernel_rfl) (by kernel_rfl) (fun _ _ _ h => h) (Or.inl ⟨by rfl, ?q103h⟩) hHeld ?q103r
    case q103h => (intro wq hSw; clear hSw; go_simp; try with_reducible rfl)
    try simp only [Act.put, List.setIfInBounds_toArray, List.set_cons_zero, List.set_cons_succ]
    refine wpAnyH_take (i := 4) (oi := { dst := some 7, op := Op.fieldAddr 25 (Operand.tmp 1) 1, type := 0, pos := "journal.go:26", after := #[{ on := 3, ground := Ground.guard }], guard := some (3, true) }) (v := undef) rfl (by kernel_rfl) (by kernel_rfl) (by kernel_rfl) (fun _ _ _ h => h) (Or.inr ⟨by rfl, rfl⟩) hHeld ?_
    try simp only [Act.put, List.setIfInBounds_toArray, List.set_cons_zero, List.set_cons_succ]
    refine wpAnyH_take (i := 5) (oi := { dst := some 8, op := Op.load 23 (Operand.tmp 7), type := 23, pos := "journal.go:26", after := #[{ on := 4, ground := Ground.data }, { on := 3, ground := Ground.guard }], guard := some (3, true) }) (v := undef) rfl (by kernel_rfl) (by kernel_rfl) (by kernel_rfl) (fun _ _ _ h => h) (Or.inr ⟨by rfl, rfl⟩) hHeld ?_
    try simp only [Act.put, List.setIfInBounds_toArray, List.set_cons_zero, List.set_cons_succ]
    refine wpAnyH_take (i := 6) (oi := { dst := some 9, op := Op.call { callee := Callee.builtin Builtin.len, args := #[Operand.tmp 8], argTypes := #[23] }, type := 3, pos := "journal.go:26", after := #[{ on := 5, ground := Ground.data }, { on := 3, ground := Ground.guard }], guard := some (3, true) }) (v := undef) rfl (by kernel_rfl) (by kernel_rfl) (by kernel_rfl) (fun _ _ _ h => h) (Or.inr ⟨by rfl, rfl⟩) hHeld ?_
    try simp only [Act.put, List.setIfInBounds_toArray, List.set_cons_zero, List.set_cons_succ]
    refine wpAnyH_take (i := 7) (oi := { dst := some 10, op := Op.binOp BinOp.leq 3 (Operand.tmp 9) (Operand.const (Value.int IntKind.i64 4096)) 3, type := 4, pos := "journal.go:26", after := #[{ on := 6, ground := Ground.data }, { on := 3, ground := Ground.guard }], guard := some (3, true) }) (v := undef) rfl (by kernel_rfl) (by kernel_rfl) (by kernel_rfl) (fun _ _ _ h => h) (Or.inr ⟨by rfl, rfl⟩) hHeld ?_
    try simp only [Act.put, List.setIfInBounds_toArray, List.set_cons_zero, List.set_cons_succ]
    refine wpAnyH_take (i := 8) (oi := { dst := some 11, op := Op.pick (Operand.tmp 6) (Operand.tmp 10) (Operand.const (Value.bool false)), type := 4, pos := "journal.go:26", after := #[{ on := 3, ground := Ground.data }, { on := 7, ground := Ground.data }], guard := none }) (v := ?q108v) rfl (by kernel_rfl) (by kernel_rfl) (by kernel_rfl) (fun _ _ _ h => h) (Or.inl ⟨by rfl, ?q108h⟩) hHeld ?q108r
    case q108h => (intro wq hSw; clear hSw; go_simp; try with_reducible rfl)
    try simp only [Act.put, List.setIfInBounds_toArray, List.set_cons_zero, List.set_cons_succ]
    refine wpAnyH_take (i := 9) (oi := { dst := some 12, op := Op.move (Operand.tmp 11), type := 4, pos := "journal.go:26", after := #[{ on := 8, ground := Ground.data }, { on := 3, ground := Ground.chain }], guard := none }) (v := ?q109v) rfl (by kernel_rfl) (by kernel_rfl) (by kernel_rfl) (fun _ _ _ h => h) (Or.inl ⟨by rfl, ?q109h⟩) hHeld ?q109r
    case q109h => (intro wq hSw; clear hSw; go_simp; try with_reducible rfl)
    try simp only [Act.put, List.setIfInBounds_toArray, List.set_cons_zero, List.set_cons_succ]
    refine wpAnyH_take (i := 10) (oi := { dst := some 13, op := Op.load 25 (Operand.tmp 1), type := 25, pos := "journal.go:26", after := #[{ on := 9, ground := Ground.guard }], guard := some (9, true) }) (v := undef) rfl (by kernel_rfl) (by kernel_rfl) (by kernel_rfl) (fun _ _ _ h => h) (Or.inr ⟨by rfl, rfl⟩) hHeld ?_
    try simp only [Act.put, List.setIfInBounds_toArray, List.set_cons_zero, List.set_cons_succ]
    refine wpAnyH_ready (rs := [11]) (by kernel_rfl) (by simp) ?_
    refine AllReadyH.cons (o := { dst := some 14, op := Op.call { callee := Callee.value (Operand.func 18), args := #[Operand.tmp 13], argTypes := #[25] }, type := 4, pos := "journal.go:26", after := #[{ on := 10, ground := Ground.data }, { on := 9, ground := Ground.chain }, { on := 9, ground := Ground.guard }], guard := some (9, true) }) rfl (fun K hK => ?_) (AllReadyH.nil)
    rw [if_neg (by exact Bool.false_ne_true)]
    have HS22 : Hid (Hp w [.ob (w.heap.size) 25 (lgCells (.slice a L.ents.length cap) L)] w22) := HS21.out
    refine hK.out _ _ (fun j v hv => by rw [Nat.zero_add]; exact HS22.out.at 0 rfl j hv) (fun hHeld => ?_)
    clear hK K
    try simp only [Act.put, List.setIfInBounds_toArray, List.set_cons_zero, List.set_cons_succ]
    refine wpAnyH_take (i := 12) (oi := { dst := some 15, op := Op.pick (Operand.tmp 12) (Operand.tmp 14) (Operand.const (Value.bool false)), type := 4, pos := "journal.go:26", after := #[{ on := 9, ground := Ground.data }, { on := 11, ground := Ground.data }], guard := none }) (v := ?q111v) rfl (by kernel_rfl) (by kernel_rfl) (by kernel_rfl) (fun _ _ _ h => h) (Or.inl ⟨by rfl, ?q111h⟩) hHeld ?q111r
    case q111h => (intro wq hSw; clear hSw; go_simp; try with_reducible rfl)
    try simp only [Act.put, List.setIfInBounds_toArray, List.set_cons_zero, List.set_cons_succ]
    refine wpAnyH_take (i := 13) (oi := { dst := some 16, op := Op.move (Operand.tmp 15), type := 4, pos := "journal.go:26", after := #[{ on := 12, ground := Ground.data }, { on := 11, ground := Ground.chain }], guard := none }) (v := ?q112v) rfl (by kernel_rfl) (by kernel_rfl) (by kernel_rfl) (fun _ _ _ h => h) (Or.inl ⟨by rfl, ?q112h⟩) hHeld ?q112r
    case q112h => (intro wq hSw; clear hSw; go_simp; try with_reducible rfl)
    try simp only [Act.put, List.setIfInBounds_toArray, List.set_cons_zero, List.set_cons_succ]
    refine wpAnyH_take (i := 14) (oi := { dst := some 17, op := Op.fieldAddr 25 (Operand.tmp 1) 2, type := 0, pos := "journal.go:26", after := #[{ on := 13, ground := Ground.guard }], guard := some (13, true) }) (v := undef) rfl (by kernel_rfl) (by kernel_rfl) (by kernel_rfl) (fun _ _ _ h => h) (Or.inr ⟨by rfl, rfl⟩) hHeld ?_
    try simp only [Act.put, List.setIfInBounds_toArray, List.set_cons_zero, List.set_cons_succ]
    refine wpAnyH_take (i := 15) (oi := { dst := some 18, op := Op.load 3 (Operand.tmp 17), type := 3, pos := "journal.go:26", after := #[{ on := 14, ground := Ground.data }, { on := 13, ground := Ground.guard }], guard := some (13, true) }) (v := undef) rfl (by kernel_rfl) (by kernel_rfl) (by kernel_rfl) (fun _ _ _ h => h) (Or.inr ⟨by rfl, rfl⟩) hHeld ?_
    try simp only [Act.put, List.setIfInBounds_toArray, List.set_cons_zero, List.set_cons_succ]
    refine wpAnyH_take (i := 16) (oi := { dst := some 19, op := Op.fieldAddr 25 (Operand.tmp 1) 0, type := 0, pos := "journal.go:26", after := #[{ on := 13, ground := Ground.guard }], guard := some (13, true) }) (v := undef) rfl (by kernel_rfl) (by kernel_rfl) (by kernel_rfl) (fun _ _ _ h => h) (Or.inr ⟨by rfl, rfl⟩) hHeld ?_
    try simp only [Act.put, List.setIfInBounds_toArray, List.set_cons_zero, List.set_cons_succ]
    refine wpAnyH_take (i := 17) (oi := { dst := some 20, op := Op.load 3 (Operand.tmp 19), type := 3, pos := "journal.go:26", after := #[{ on := 16, ground := Ground.data }, { on := 13, ground := Ground.guard }], guard := some (13, true) }) (v := undef) rfl (by kernel_rfl) (by kernel_rfl) (by kernel_rfl) (fun _ _ _ h => h) (Or.inr ⟨by rfl, rfl⟩) hHeld ?_
    try simp only [Act.put, List.setIfInBounds_toArray, List.set_cons_zero, List.set_cons_succ]
    refine wpAnyH_take (i := 18) (oi := { dst := some 21, op := Op.binOp BinOp.sub 3 (Operand.tmp 20) (Operand.const (Value.int IntKind.i64 1)) 3, type := 3, pos := "journal.go:26", after := #[{ on := 17, ground := Ground.data }, { on := 13, ground := Ground.guard }], guard := some (13, true) }) (v := undef) rfl (by kernel_rfl) (by kernel_rfl) (by kernel_rfl) (fun _ _ _ h => h) (Or.inr ⟨by rfl, rfl⟩) hHeld ?_
    try simp only [Act.put, List.setIfInBounds_toArray, List.set_cons_zero, List.set_cons_succ]
    refine wpAnyH_take (i := 19) (oi := { dst := some 22, op := Op.binOp BinOp.geq 3 (Operand.tmp 18) (Operand.tmp 21) 3, type := 4, pos := "journal.go:26", after := #[{ on := 15, ground := Ground.data }, { on := 18, ground := Ground.data }, { on := 13, ground := Ground.guard }], guard := some (13, true) }) (v := undef) rfl (by kernel_rfl) (by kernel_rfl) (by kernel_rfl) (fun _ _ _ h => h) (Or.inr ⟨by rfl, rfl⟩) hHeld ?_
    try simp only [Act.put, List.setIfInBounds_toArray, List.set_cons_zero, List.set_cons_succ]
    refine wpAnyH_take (i := 20) (oi := { dst := some 23, op := Op.pick (Operand.tmp 16) (Operand.tmp 22) (Operand.const (Value.bool false)), type := 4, pos := "journal.go:26", after := #[{ on := 13, ground := Ground.data }, { on := 19, ground := Ground.data }], guard := none }) (v := ?q119v) rfl (by kernel_rfl) (by kernel_rfl) (by kernel_rfl) (fun _ _ _ h => h) (Or.inl ⟨by rfl, ?q119h⟩) hHeld ?q119r
    case q119h => (intro wq hSw; clear hSw; go_simp; try with_reducible rfl)
    try simp only [Act.put, List.setIfInBounds_toArray, List.set_cons_zero, List.set_cons_succ]
    refine wpAnyH_take (i := 21) (oi := { dst := some 24, op := Op.move (Operand.tmp 23), type := 4, pos := "journal.go:26", after := #[{ on := 20, ground := Ground.data }, { on := 13, ground := Ground.chain }], guard := none }) (v := ?q120v) rfl (by kernel_rfl) (by kernel_rfl) (by kernel_rfl) (fun _ _ _ h => h) (Or.inl ⟨by rfl, ?q120h⟩) hHeld ?q120r
    case q120h => (intro wq hSw; clear hSw; go_simp; try with_reducible rfl)
    try simp only [Act.put, List.setIfInBounds_toArray, List.set_cons_zero, List.set_cons_succ]
    refine wpAnyH_take (i := 22) (oi := { dst := some 25, op := Op.fieldAddr 25 (Operand.tmp 1) 2, type := 0, pos := "journal.go:26", after := #[{ on := 21, ground := Ground.guard }], guard := some (21, true) }) (v := undef) rfl (by kernel_rfl) (by kernel_rfl) (by kernel_rfl) (fun _ _ _ h => h) (Or.inr ⟨by rfl, rfl⟩) hHeld ?_
    try simp only [Act.put, List.setIfInBounds_toArray, List.set_cons_zero, List.set_cons_succ]
    refine wpAnyH_take (i := 23) (oi := { dst := some 26, op := Op.load 3 (Operand.tmp 25), type := 3, pos := "journal.go:26", after := #[{ on := 22, ground := Ground.data }, { on := 21, ground := Ground.guard }], guard := some (21, true) }) (v := undef) rfl (by kernel_rfl) (by kernel_rfl) (by kernel_rfl) (fun _ _ _ h => h) (Or.inr ⟨by rfl, rfl⟩) hHeld ?_
    try simp only [Act.put, List.setIfInBounds_toArray, List.set_cons_zero, List.set_cons_succ]
    refine wpAnyH_take (i := 24) (oi := { dst := some 27, op := Op.load 25 (Operand.tmp 1), type := 25, pos := "journal.go:26", after := #[{ on := 21, ground := Ground.guard }], guard := some (21, true) }) (v := undef) rfl (by kernel_rfl) (by kernel_rfl) (by kernel_rfl) (fun _ _ _ h => h) (Or.inr ⟨by rfl, rfl⟩) hHeld ?_
    try simp only [Act.put, List.setIfInBounds_toArray, List.set_cons_zero, List.set_cons_succ]
    refine wpAnyH_ready (rs := [25]) (by kernel_rfl) (by simp) ?_
    refine AllReadyH.cons (o := { dst := some 28, op := Op.call { callee := Callee.value (Operand.func 12), args := #[Operand.tmp 27], argTypes := #[25] }, type := 3, pos := "journal.go:27", after := #[{ on := 24, ground := Ground.data }, { on := 21, ground := Ground.chain }, { on := 21, ground := Ground.guard }], guard := some (21, true) }) rfl (fun K hK => ?_) (AllReadyH.nil)
    rw [if_neg (by exact Bool.false_ne_true)]
    have HS23 : Hid (Hp w [.ob (w.heap.size) 25 (lgCells (.slice a L.ents.length cap) L)] w22) := HS22.out
    refine hK.out _ _ (fun j v hv => by rw [Nat.zero_add]; exact HS23.out.at 0 rfl j hv) (fun hHeld => ?_)
    clear hK K
    try simp only [Act.put, List.setIfInBounds_toArray, List.set_cons_zero, List.set_cons_succ]
    refine wpAnyH_take (i := 26) (oi := { dst := some 29, op := Op.binOp BinOp.leq 3 (Operand.tmp 26) (Operand.tmp 28) 3, type := 4, pos := "journal.go:26", after := #[{ on := 23, ground := Ground.data }, { on := 25, ground := Ground.data }, { on := 21, ground := Ground.guard }], guard := some (21, true) }) (v := undef) rfl (by kernel_rfl) (by kernel_rfl) (by kernel_rfl) (fun _ _ _ h => h) (Or.inr ⟨by rfl, rfl⟩) hHeld ?_
    try simp only [Act.put, List.setIfInBounds_toArray, List.set_cons_zero, List.set_cons_succ]
    refine wpAnyH_take (i := 27) (oi := { dst := some 30, op := Op.pick (Operand.tmp 24) (Operand.tmp 29) (Operand.const (Value.bool false)), type := 4, pos := "journal.go:26", after := #[{ on := 21, ground := Ground.data }, { on := 26, ground := Ground.data }], guard := none }) (v := ?q125v) rfl (by kernel_rfl) (by kernel_rfl) (by kernel_rfl) (fun _ _ _ h => h) (Or.inl ⟨by rfl, ?q125h⟩) hHeld ?q125r
    case q125h => (intro wq hSw; clear hSw; go_simp; try with_reducible rfl)
    try simp only [Act.put, List.setIfInBounds_toArray, List.set_cons_zero, List.set_cons_succ]
    refine wpAnyH_take (i := 28) (oi := { dst := some 2, op := Op.assign (Operand.tmp 30), type := 4, pos := "journal.go:26", after := #[{ on := 27, ground := Ground.data }, { on := 25, ground := Ground.chain }, { on := 0, ground := Ground.phase }, { on := 1, ground := Ground.phase }, { on := 2, ground := Ground.phase }, { on := 3, ground := Ground.phase }, { on := 4, ground := Ground.phase }, { on := 5, ground := Ground.phase }, { on := 6, ground := Ground.phase }, { on := 7, ground := Ground.phase }, { on := 8, ground := Ground.phase }, { on := 9, ground := Ground.phase }, { on := 10, ground := Ground.phase }, { on := 11, ground := Ground.phase }, { on := 12, ground := Ground.phase }, { on := 13, ground := Ground.phase }, { on := 14, ground := Ground.phase }, { on := 15, ground := Ground.phase }, { on := 16, ground := Ground.phase }, { on := 17, ground := Ground.phase }, { on := 18, ground := Ground.phase }, { on := 19, ground := Ground.phase }, { on := 20, ground := Ground.phase }, { on := 21, ground := Ground.phase }, { on := 22, ground := Ground.phase }, { on := 23, ground := Ground.phase }, { on := 24, ground := Ground.phase }, { on := 25, ground := Ground.phase }, { on := 26, ground := Ground.phase }, { on := 27, ground := Ground.phase }], guard := none }) (v := ?q126v) rfl (by kernel_rfl) (by kernel_rfl) (by kernel_rfl) (fun _ _ _ h => h) (Or.inl ⟨by rfl, ?q126h⟩) hHeld ?q126r
    case q126h => (intro wq hSw; clear hSw; go_simp; try with_reducible rfl)
    try simp only [Act.put, List.setIfInBounds_toArray, List.set_cons_zero, List.set_cons_succ]
    refine wpAnyH_done (by kernel_rfl) ?_ _
    go_wp2_with fail
    go_ret
    exact ⟨by rw [HX.out]; rfl, HS23.out.old⟩
  case true =>
  have hf := HF.out rfl
  have f1 : 1 ≤ L.first := hf.1
  have hw : IntKind.i64.wrap (L.first - 1) = L.first - 1 := IntWalk.i64_in _ (by omega)
  by_cases hl : (L.ents.length : Int) ≤ 4096
  case neg =>
    have HX : Hid (lgOkB L = false) := by show _ = _; rw [HOk.out, decide_eq_false hl]; first | rfl | simp
    refine wp_region_held_drew (S := fun w' => w'.rangeAt w.heap.size 0 (lgCells (.slice a L.ents.length cap) L)) (by kernel_rfl) (fun j v hv => by rw [Nat.zero_add]; exact (HS0.out.drew).at 0 rfl j hv) (fun hHeld => ?_)
    refine wpAnyH_take (i := 0) (oi := { dst := some 3, op := Op.fieldAddr 25 (Operand.tmp 1) 0, type := 0, pos := "journal.go:26", after := #[], guard := none }) (v := ?q201v) rfl (by kernel_rfl) (by kernel_rfl) (by kernel_rfl) (fun _ _ _ h => h) (Or.inl ⟨by rfl, ?q201h⟩) hHeld ?q201r
    case q201h => (intro wq hSw; clear hSw; go_simp; try with_reducible rfl)
    try simp only [Act.put, List.setIfInBounds_toArray, List.set_cons_zero, List.set_cons_succ]
    refine wpAnyH_take (i := 1) (oi := { dst := some 4, op := Op.load 3 (Operand.tmp 3), type := 3, pos := "journal.go:26", after := #[{ on := 0, ground := Ground.data }], guard := none }) (v := ?q202v) rfl (by kernel_rfl) (by kernel_rfl) (by kernel_rfl) (fun _ _ _ h => h) (Or.inl ⟨by rfl, ?q202h⟩) hHeld ?q202r
    case q202h => (intro wq hSw; have hq := hSw 0 _ rfl; simp only [Nat.zero_add] at hq; clear hSw; go_simp; try with_reducible rfl)
    try simp only [Act.put, List.setIfInBounds_toArray, List.set_cons_zero, List.set_cons_succ]
    refine wpAnyH_ready (rs := [2]) (by kernel_rfl) (by simp) ?_
    refine AllReadyH.cons (o := { dst := some 5, op := Op.call { callee := Callee.value (Operand.func 17), args := #[Operand.tmp 4], argTypes := #[3] }, type := 4, pos := "journal.go:26", after := #[{ on := 1, ground := Ground.data }], guard := none }) rfl (fun K hK => ?_) (AllReadyH.nil)
    go_simp
    go_wp2_with (go_at_call 17; refine (HVf.out _).mono ?_; rintro e w21 ⟨rfl, rfl⟩)
    have HS21 : Hid (Hp w [.ob (w.heap.size) 25 (lgCells (.slice a L.ents.length cap) L)] ((w.alloc (.cells (lgCells (.slice a L.ents.length cap) L).toArray 25)).drew)) := (HS0.out).drew
    refine hK.out _ _ (fun j v hv => by rw [Nat.zero_add]; exact HS21.out.at 0 rfl j hv) (fun hHeld => ?_)
    clear hK K
    generalize ((w.alloc (.cells (lgCells (.slice a L.ents.length cap) L).toArray 25)).drew) = w22 at *
    try simp only [Act.put, List.setIfInBounds_toArray, List.set_cons_zero, List.set_cons_succ]
    refine wpAnyH_take (i := 3) (oi := { dst := some 6, op := Op.move (Operand.tmp 5), type := 4, pos := "journal.go:26", after := #[{ on := 2, ground := Ground.data }, { on := 2, ground := Ground.chain }], guard := none }) (v := ?q203v) rfl (by kernel_rfl) (by kernel_rfl) (by kernel_rfl) (fun _ _ _ h => h) (Or.inl ⟨by rfl, ?q203h⟩) hHeld ?q203r
    case q203h => (intro wq hSw; clear hSw; go_simp; try with_reducible rfl)
    try simp only [Act.put, List.setIfInBounds_toArray, List.set_cons_zero, List.set_cons_succ]
    refine wpAnyH_take (i := 4) (oi := { dst := some 7, op := Op.fieldAddr 25 (Operand.tmp 1) 1, type := 0, pos := "journal.go:26", after := #[{ on := 3, ground := Ground.guard }], guard := some (3, true) }) (v := ?q204v) rfl (by kernel_rfl) (by kernel_rfl) (by kernel_rfl) (fun _ _ _ h => h) (Or.inl ⟨by rfl, ?q204h⟩) hHeld ?q204r
    case q204h => (intro wq hSw; clear hSw; go_simp; try with_reducible rfl)
    try simp only [Act.put, List.setIfInBounds_toArray, List.set_cons_zero, List.set_cons_succ]
    refine wpAnyH_take (i := 5) (oi := { dst := some 8, op := Op.load 23 (Operand.tmp 7), type := 23, pos := "journal.go:26", after := #[{ on := 4, ground := Ground.data }, { on := 3, ground := Ground.guard }], guard := some (3, true) }) (v := ?q205v) rfl (by kernel_rfl) (by kernel_rfl) (by kernel_rfl) (fun _ _ _ h => h) (Or.inl ⟨by rfl, ?q205h⟩) hHeld ?q205r
    case q205h => (intro wq hSw; have hq := hSw 1 _ rfl; simp only [Nat.zero_add] at hq; clear hSw; go_simp; try with_reducible rfl)
    try simp only [Act.put, List.setIfInBounds_toArray, List.set_cons_zero, List.set_cons_succ]
    refine wpAnyH_take (i := 6) (oi := { dst := some 9, op := Op.call { callee := Callee.builtin Builtin.len, args := #[Operand.tmp 8], argTypes := #[23] }, type := 3, pos := "journal.go:26", after := #[{ on := 5, ground := Ground.data }, { on := 3, ground := Ground.guard }], guard := some (3, true) }) (v := ?q206v) rfl (by kernel_rfl) (by kernel_rfl) (by kernel_rfl) (fun _ _ _ h => h) (Or.inl ⟨by rfl, ?q206h⟩) hHeld ?q206r
    case q206h => (intro wq hSw; clear hSw; go_simp; try with_reducible rfl)
    try simp only [Act.put, List.setIfInBounds_toArray, List.set_cons_zero, List.set_cons_succ]
    refine wpAnyH_take (i := 7) (oi := { dst := some 10, op := Op.binOp BinOp.leq 3 (Operand.tmp 9) (Operand.const (Value.int IntKind.i64 4096)) 3, type := 4, pos := "journal.go:26", after := #[{ on := 6, ground := Ground.data }, { on := 3, ground := Ground.guard }], guard := some (3, true) }) (v := .bool false) rfl (by kernel_rfl) (by kernel_rfl) (by kernel_rfl) (fun _ _ _ h => h) (Or.inl ⟨by rfl, ?q207h⟩) hHeld ?q207r
    case q207h => (intro wq hSw; clear hSw; go_simp; try with_reducible rfl)
    try simp only [Act.put, List.setIfInBounds_toArray, List.set_cons_zero, List.set_cons_succ]
    refine wpAnyH_take (i := 8) (oi := { dst := some 11, op := Op.pick (Operand.tmp 6) (Operand.tmp 10) (Operand.const (Value.bool false)), type := 4, pos := "journal.go:26", after := #[{ on := 3, ground := Ground.data }, { on := 7, ground := Ground.data }], guard := none }) (v := ?q208v) rfl (by kernel_rfl) (by kernel_rfl) (by kernel_rfl) (fun _ _ _ h => h) (Or.inl ⟨by rfl, ?q208h⟩) hHeld ?q208r
    case q208h => (intro wq hSw; clear hSw; go_simp; try with_reducible rfl)
    try simp only [Act.put, List.setIfInBounds_toArray, List.set_cons_zero, List.set_cons_succ]
    refine wpAnyH_take (i := 9) (oi := { dst := some 12, op := Op.move (Operand.tmp 11), type := 4, pos := "journal.go:26", after := #[{ on := 8, ground := Ground.data }, { on := 3, ground := Ground.chain }], guard := none }) (v := ?q209v) rfl (by kernel_rfl) (by kernel_rfl) (by kernel_rfl) (fun _ _ _ h => h) (Or.inl ⟨by rfl, ?q209h⟩) hHeld ?q209r
    case q209h => (intro wq hSw; clear hSw; go_simp; try with_reducible rfl)
    try simp only [Act.put, List.setIfInBounds_toArray, List.set_cons_zero, List.set_cons_succ]
    refine wpAnyH_take (i := 10) (oi := { dst := some 13, op := Op.load 25 (Operand.tmp 1), type := 25, pos := "journal.go:26", after := #[{ on := 9, ground := Ground.guard }], guard := some (9, true) }) (v := undef) rfl (by kernel_rfl) (by kernel_rfl) (by kernel_rfl) (fun _ _ _ h => h) (Or.inr ⟨by rfl, rfl⟩) hHeld ?_
    try simp only [Act.put, List.setIfInBounds_toArray, List.set_cons_zero, List.set_cons_succ]
    refine wpAnyH_ready (rs := [11]) (by kernel_rfl) (by simp) ?_
    refine AllReadyH.cons (o := { dst := some 14, op := Op.call { callee := Callee.value (Operand.func 18), args := #[Operand.tmp 13], argTypes := #[25] }, type := 4, pos := "journal.go:26", after := #[{ on := 10, ground := Ground.data }, { on := 9, ground := Ground.chain }, { on := 9, ground := Ground.guard }], guard := some (9, true) }) rfl (fun K hK => ?_) (AllReadyH.nil)
    rw [if_neg (by exact Bool.false_ne_true)]
    have HS22 : Hid (Hp w [.ob (w.heap.size) 25 (lgCells (.slice a L.ents.length cap) L)] w22) := HS21.out
    refine hK.out _ _ (fun j v hv => by rw [Nat.zero_add]; exact HS22.out.at 0 rfl j hv) (fun hHeld => ?_)
    clear hK K
    try simp only [Act.put, List.setIfInBounds_toArray, List.set_cons_zero, List.set_cons_succ]
    refine wpAnyH_take (i := 12) (oi := { dst := some 15, op := Op.pick (Operand.tmp 12) (Operand.tmp 14) (Operand.const (Value.bool false)), type := 4, pos := "journal.go:26", after := #[{ on := 9, ground := Ground.data }, { on := 11, ground := Ground.data }], guard := none }) (v := ?q211v) rfl (by kernel_rfl) (by kernel_rfl) (by kernel_rfl) (fun _ _ _ h => h) (Or.inl ⟨by rfl, ?q211h⟩) hHeld ?q211r
    case q211h => (intro wq hSw; clear hSw; go_simp; try with_reducible rfl)
    try simp only [Act.put, List.setIfInBounds_toArray, List.set_cons_zero, List.set_cons_succ]
    refine wpAnyH_take (i := 13) (oi := { dst := some 16, op := Op.move (Operand.tmp 15), type := 4, pos := "journal.go:26", after := #[{ on := 12, ground := Ground.data }, { on := 11, ground := Ground.chain }], guard := none }) (v := ?q212v) rfl (by kernel_rfl) (by kernel_rfl) (by kernel_rfl) (fun _ _ _ h => h) (Or.inl ⟨by rfl, ?q212h⟩) hHeld ?q212r
    case q212h => (intro wq hSw; clear hSw; go_simp; try with_reducible rfl)
    try simp only [Act.put, List.setIfInBounds_toArray, List.set_cons_zero, List.set_cons_succ]
    refine wpAnyH_take (i := 14) (oi := { dst := some 17, op := Op.fieldAddr 25 (Operand.tmp 1) 2, type := 0, pos := "journal.go:26", after := #[{ on := 13, ground := Ground.guard }], guard := some (13, true) }) (v := undef) rfl (by kernel_rfl) (by kernel_rfl) (by kernel_rfl) (fun _ _ _ h => h) (Or.inr ⟨by rfl, rfl⟩) hHeld ?_
    try simp only [Act.put, List.setIfInBounds_toArray, List.set_cons_zero, List.set_cons_succ]
    refine wpAnyH_take (i := 15) (oi := { dst := some 18, op := Op.load 3 (Operand.tmp 17), type := 3, pos := "journal.go:26", after := #[{ on := 14, ground := Ground.data }, { on := 13, ground := Ground.guard }], guard := some (13, true) }) (v := undef) rfl (by kernel_rfl) (by kernel_rfl) (by kernel_rfl) (fun _ _ _ h => h) (Or.inr ⟨by rfl, rfl⟩) hHeld ?_
    try simp only [Act.put, List.setIfInBounds_toArray, List.set_cons_zero, List.set_cons_succ]
    refine wpAnyH_take (i := 16) (oi := { dst := some 19, op := Op.fieldAddr 25 (Operand.tmp 1) 0, type := 0, pos := "journal.go:26", after := #[{ on := 13, ground := Ground.guard }], guard := some (13, true) }) (v := undef) rfl (by kernel_rfl) (by kernel_rfl) (by kernel_rfl) (fun _ _ _ h => h) (Or.inr ⟨by rfl, rfl⟩) hHeld ?_
    try simp only [Act.put, List.setIfInBounds_toArray, List.set_cons_zero, List.set_cons_succ]
    refine wpAnyH_take (i := 17) (oi := { dst := some 20, op := Op.load 3 (Operand.tmp 19), type := 3, pos := "journal.go:26", after := #[{ on := 16, ground := Ground.data }, { on := 13, ground := Ground.guard }], guard := some (13, true) }) (v := undef) rfl (by kernel_rfl) (by kernel_rfl) (by kernel_rfl) (fun _ _ _ h => h) (Or.inr ⟨by rfl, rfl⟩) hHeld ?_
    try simp only [Act.put, List.setIfInBounds_toArray, List.set_cons_zero, List.set_cons_succ]
    refine wpAnyH_take (i := 18) (oi := { dst := some 21, op := Op.binOp BinOp.sub 3 (Operand.tmp 20) (Operand.const (Value.int IntKind.i64 1)) 3, type := 3, pos := "journal.go:26", after := #[{ on := 17, ground := Ground.data }, { on := 13, ground := Ground.guard }], guard := some (13, true) }) (v := undef) rfl (by kernel_rfl) (by kernel_rfl) (by kernel_rfl) (fun _ _ _ h => h) (Or.inr ⟨by rfl, rfl⟩) hHeld ?_
    try simp only [Act.put, List.setIfInBounds_toArray, List.set_cons_zero, List.set_cons_succ]
    refine wpAnyH_take (i := 19) (oi := { dst := some 22, op := Op.binOp BinOp.geq 3 (Operand.tmp 18) (Operand.tmp 21) 3, type := 4, pos := "journal.go:26", after := #[{ on := 15, ground := Ground.data }, { on := 18, ground := Ground.data }, { on := 13, ground := Ground.guard }], guard := some (13, true) }) (v := undef) rfl (by kernel_rfl) (by kernel_rfl) (by kernel_rfl) (fun _ _ _ h => h) (Or.inr ⟨by rfl, rfl⟩) hHeld ?_
    try simp only [Act.put, List.setIfInBounds_toArray, List.set_cons_zero, List.set_cons_succ]
    refine wpAnyH_take (i := 20) (oi := { dst := some 23, op := Op.pick (Operand.tmp 16) (Operand.tmp 22) (Operand.const (Value.bool false)), type := 4, pos := "journal.go:26", after := #[{ on := 13, ground := Ground.data }, { on := 19, ground := Ground.data }], guard := none }) (v := ?q219v) rfl (by kernel_rfl) (by kernel_rfl) (by kernel_rfl) (fun _ _ _ h => h) (Or.inl ⟨by rfl, ?q219h⟩) hHeld ?q219r
    case q219h => (intro wq hSw; clear hSw; go_simp; try with_reducible rfl)
    try simp only [Act.put, List.setIfInBounds_toArray, List.set_cons_zero, List.set_cons_succ]
    refine wpAnyH_take (i := 21) (oi := { dst := some 24, op := Op.move (Operand.tmp 23), type := 4, pos := "journal.go:26", after := #[{ on := 20, ground := Ground.data }, { on := 13, ground := Ground.chain }], guard := none }) (v := ?q220v) rfl (by kernel_rfl) (by kernel_rfl) (by kernel_rfl) (fun _ _ _ h => h) (Or.inl ⟨by rfl, ?q220h⟩) hHeld ?q220r
    case q220h => (intro wq hSw; clear hSw; go_simp; try with_reducible rfl)
    try simp only [Act.put, List.setIfInBounds_toArray, List.set_cons_zero, List.set_cons_succ]
    refine wpAnyH_take (i := 22) (oi := { dst := some 25, op := Op.fieldAddr 25 (Operand.tmp 1) 2, type := 0, pos := "journal.go:26", after := #[{ on := 21, ground := Ground.guard }], guard := some (21, true) }) (v := undef) rfl (by kernel_rfl) (by kernel_rfl) (by kernel_rfl) (fun _ _ _ h => h) (Or.inr ⟨by rfl, rfl⟩) hHeld ?_
    try simp only [Act.put, List.setIfInBounds_toArray, List.set_cons_zero, List.set_cons_succ]
    refine wpAnyH_take (i := 23) (oi := { dst := some 26, op := Op.load 3 (Operand.tmp 25), type := 3, pos := "journal.go:26", after := #[{ on := 22, ground := Ground.data }, { on := 21, ground := Ground.guard }], guard := some (21, true) }) (v := undef) rfl (by kernel_rfl) (by kernel_rfl) (by kernel_rfl) (fun _ _ _ h => h) (Or.inr ⟨by rfl, rfl⟩) hHeld ?_
    try simp only [Act.put, List.setIfInBounds_toArray, List.set_cons_zero, List.set_cons_succ]
    refine wpAnyH_take (i := 24) (oi := { dst := some 27, op := Op.load 25 (Operand.tmp 1), type := 25, pos := "journal.go:26", after := #[{ on := 21, ground := Ground.guard }], guard := some (21, true) }) (v := undef) rfl (by kernel_rfl) (by kernel_rfl) (by kernel_rfl) (fun _ _ _ h => h) (Or.inr ⟨by rfl, rfl⟩) hHeld ?_
    try simp only [Act.put, List.setIfInBounds_toArray, List.set_cons_zero, List.set_cons_succ]
    refine wpAnyH_ready (rs := [25]) (by kernel_rfl) (by simp) ?_
    refine AllReadyH.cons (o := { dst := some 28, op := Op.call { callee := Callee.value (Operand.func 12), args := #[Operand.tmp 27], argTypes := #[25] }, type := 3, pos := "journal.go:27", after := #[{ on := 24, ground := Ground.data }, { on := 21, ground := Ground.chain }, { on := 21, ground := Ground.guard }], guard := some (21, true) }) rfl (fun K hK => ?_) (AllReadyH.nil)
    rw [if_neg (by exact Bool.false_ne_true)]
    have HS23 : Hid (Hp w [.ob (w.heap.size) 25 (lgCells (.slice a L.ents.length cap) L)] w22) := HS22.out
    refine hK.out _ _ (fun j v hv => by rw [Nat.zero_add]; exact HS23.out.at 0 rfl j hv) (fun hHeld => ?_)
    clear hK K
    try simp only [Act.put, List.setIfInBounds_toArray, List.set_cons_zero, List.set_cons_succ]
    refine wpAnyH_take (i := 26) (oi := { dst := some 29, op := Op.binOp BinOp.leq 3 (Operand.tmp 26) (Operand.tmp 28) 3, type := 4, pos := "journal.go:26", after := #[{ on := 23, ground := Ground.data }, { on := 25, ground := Ground.data }, { on := 21, ground := Ground.guard }], guard := some (21, true) }) (v := undef) rfl (by kernel_rfl) (by kernel_rfl) (by kernel_rfl) (fun _ _ _ h => h) (Or.inr ⟨by rfl, rfl⟩) hHeld ?_
    try simp only [Act.put, List.setIfInBounds_toArray, List.set_cons_zero, List.set_cons_succ]
    refine wpAnyH_take (i := 27) (oi := { dst := some 30, op := Op.pick (Operand.tmp 24) (Operand.tmp 29) (Operand.const (Value.bool false)), type := 4, pos := "journal.go:26", after := #[{ on := 21, ground := Ground.data }, { on := 26, ground := Ground.data }], guard := none }) (v := ?q225v) rfl (by kernel_rfl) (by kernel_rfl) (by kernel_rfl) (fun _ _ _ h => h) (Or.inl ⟨by rfl, ?q225h⟩) hHeld ?q225r
    case q225h => (intro wq hSw; clear hSw; go_simp; try with_reducible rfl)
    try simp only [Act.put, List.setIfInBounds_toArray, List.set_cons_zero, List.set_cons_succ]
    refine wpAnyH_take (i := 28) (oi := { dst := some 2, op := Op.assign (Operand.tmp 30), type := 4, pos := "journal.go:26", after := #[{ on := 27, ground := Ground.data }, { on := 25, ground := Ground.chain }, { on := 0, ground := Ground.phase }, { on := 1, ground := Ground.phase }, { on := 2, ground := Ground.phase }, { on := 3, ground := Ground.phase }, { on := 4, ground := Ground.phase }, { on := 5, ground := Ground.phase }, { on := 6, ground := Ground.phase }, { on := 7, ground := Ground.phase }, { on := 8, ground := Ground.phase }, { on := 9, ground := Ground.phase }, { on := 10, ground := Ground.phase }, { on := 11, ground := Ground.phase }, { on := 12, ground := Ground.phase }, { on := 13, ground := Ground.phase }, { on := 14, ground := Ground.phase }, { on := 15, ground := Ground.phase }, { on := 16, ground := Ground.phase }, { on := 17, ground := Ground.phase }, { on := 18, ground := Ground.phase }, { on := 19, ground := Ground.phase }, { on := 20, ground := Ground.phase }, { on := 21, ground := Ground.phase }, { on := 22, ground := Ground.phase }, { on := 23, ground := Ground.phase }, { on := 24, ground := Ground.phase }, { on := 25, ground := Ground.phase }, { on := 26, ground := Ground.phase }, { on := 27, ground := Ground.phase }], guard := none }) (v := ?q226v) rfl (by kernel_rfl) (by kernel_rfl) (by kernel_rfl) (fun _ _ _ h => h) (Or.inl ⟨by rfl, ?q226h⟩) hHeld ?q226r
    case q226h => (intro wq hSw; clear hSw; go_simp; try with_reducible rfl)
    try simp only [Act.put, List.setIfInBounds_toArray, List.set_cons_zero, List.set_cons_succ]
    refine wpAnyH_done (by kernel_rfl) ?_ _
    go_wp2_with fail
    go_ret
    exact ⟨by rw [HX.out]; rfl, HS23.out.old⟩
  case pos =>
  have HIo2 : Hid (∀ W, Below w.heap.size w W → Calls Tryd.prog 18 #[.agg (lgCells (.slice a L.ents.length cap) L).toArray] W fun e w' => e = .returned (.bool q3) ∧ Below W.heap.size W w') := fun W hb => HIo.out W hb (by omega) (by omega)
  have HEn2 : Hid (∀ W, Calls Tryd.prog 12 #[.agg (lgCells (.slice a L.ents.length cap) L).toArray] W fun e w' => e = .returned (.int .i64 (endI L)) ∧ Below W.heap.size W w') := fun W => HEn.out W (by omega) (by omega)
  clear HIo HEn HF hf
  cases q3
  case false =>
    have HX : Hid (lgOkB L = false) := by show _ = _; rw [HOk.out, decide_eq_true hl]; first | rfl | simp
    refine wp_region_held_drew (S := fun w' => w'.rangeAt w.heap.size 0 (lgCells (.slice a L.ents.length cap) L)) (by kernel_rfl) (fun j v hv => by rw [Nat.zero_add]; exact (HS0.out.drew).at 0 rfl j hv) (fun hHeld => ?_)
    refine wpAnyH_take (i := 0) (oi := { dst := some 3, op := Op.fieldAddr 25 (Operand.tmp 1) 0, type := 0, pos := "journal.go:26", after := #[], guard := none }) (v := ?q301v) rfl (by kernel_rfl) (by kernel_rfl) (by kernel_rfl) (fun _ _ _ h => h) (Or.inl ⟨by rfl, ?q301h⟩) hHeld ?q301r
    case q301h => (intro wq hSw; clear hSw; go_simp; try with_reducible rfl)
    try simp only [Act.put, List.setIfInBounds_toArray, List.set_cons_zero, List.set_cons_succ]
    refine wpAnyH_take (i := 1) (oi := { dst := some 4, op := Op.load 3 (Operand.tmp 3), type := 3, pos := "journal.go:26", after := #[{ on := 0, ground := Ground.data }], guard := none }) (v := ?q302v) rfl (by kernel_rfl) (by kernel_rfl) (by kernel_rfl) (fun _ _ _ h => h) (Or.inl ⟨by rfl, ?q302h⟩) hHeld ?q302r
    case q302h => (intro wq hSw; have hq := hSw 0 _ rfl; simp only [Nat.zero_add] at hq; clear hSw; go_simp; try with_reducible rfl)
    try simp only [Act.put, List.setIfInBounds_toArray, List.set_cons_zero, List.set_cons_succ]
    refine wpAnyH_ready (rs := [2]) (by kernel_rfl) (by simp) ?_
    refine AllReadyH.cons (o := { dst := some 5, op := Op.call { callee := Callee.value (Operand.func 17), args := #[Operand.tmp 4], argTypes := #[3] }, type := 4, pos := "journal.go:26", after := #[{ on := 1, ground := Ground.data }], guard := none }) rfl (fun K hK => ?_) (AllReadyH.nil)
    go_simp
    go_wp2_with (go_at_call 17; refine (HVf.out _).mono ?_; rintro e w21 ⟨rfl, rfl⟩)
    have HS21 : Hid (Hp w [.ob (w.heap.size) 25 (lgCells (.slice a L.ents.length cap) L)] ((w.alloc (.cells (lgCells (.slice a L.ents.length cap) L).toArray 25)).drew)) := (HS0.out).drew
    refine hK.out _ _ (fun j v hv => by rw [Nat.zero_add]; exact HS21.out.at 0 rfl j hv) (fun hHeld => ?_)
    clear hK K
    generalize ((w.alloc (.cells (lgCells (.slice a L.ents.length cap) L).toArray 25)).drew) = w22 at *
    try simp only [Act.put, List.setIfInBounds_toArray, List.set_cons_zero, List.set_cons_succ]
    refine wpAnyH_take (i := 3) (oi := { dst := some 6, op := Op.move (Operand.tmp 5), type := 4, pos := "journal.go:26", after := #[{ on := 2, ground := Ground.data }, { on := 2, ground := Ground.chain }], guard := none }) (v := ?q303v) rfl (by kernel_rfl) (by kernel_rfl) (by kernel_rfl) (fun _ _ _ h => h) (Or.inl ⟨by rfl, ?q303h⟩) hHeld ?q303r
    case q303h => (intro wq hSw; clear hSw; go_simp; try with_reducible rfl)
    try simp only [Act.put, List.setIfInBounds_toArray, List.set_cons_zero, List.set_cons_succ]
    refine wpAnyH_take (i := 4) (oi := { dst := some 7, op := Op.fieldAddr 25 (Operand.tmp 1) 1, type := 0, pos := "journal.go:26", after := #[{ on := 3, ground := Ground.guard }], guard := some (3, true) }) (v := ?q304v) rfl (by kernel_rfl) (by kernel_rfl) (by kernel_rfl) (fun _ _ _ h => h) (Or.inl ⟨by rfl, ?q304h⟩) hHeld ?q304r
    case q304h => (intro wq hSw; clear hSw; go_simp; try with_reducible rfl)
    try simp only [Act.put, List.setIfInBounds_toArray, List.set_cons_zero, List.set_cons_succ]
    refine wpAnyH_take (i := 5) (oi := { dst := some 8, op := Op.load 23 (Operand.tmp 7), type := 23, pos := "journal.go:26", after := #[{ on := 4, ground := Ground.data }, { on := 3, ground := Ground.guard }], guard := some (3, true) }) (v := ?q305v) rfl (by kernel_rfl) (by kernel_rfl) (by kernel_rfl) (fun _ _ _ h => h) (Or.inl ⟨by rfl, ?q305h⟩) hHeld ?q305r
    case q305h => (intro wq hSw; have hq := hSw 1 _ rfl; simp only [Nat.zero_add] at hq; clear hSw; go_simp; try with_reducible rfl)
    try simp only [Act.put, List.setIfInBounds_toArray, List.set_cons_zero, List.set_cons_succ]
    refine wpAnyH_take (i := 6) (oi := { dst := some 9, op := Op.call { callee := Callee.builtin Builtin.len, args := #[Operand.tmp 8], argTypes := #[23] }, type := 3, pos := "journal.go:26", after := #[{ on := 5, ground := Ground.data }, { on := 3, ground := Ground.guard }], guard := some (3, true) }) (v := ?q306v) rfl (by kernel_rfl) (by kernel_rfl) (by kernel_rfl) (fun _ _ _ h => h) (Or.inl ⟨by rfl, ?q306h⟩) hHeld ?q306r
    case q306h => (intro wq hSw; clear hSw; go_simp; try with_reducible rfl)
    try simp only [Act.put, List.setIfInBounds_toArray, List.set_cons_zero, List.set_cons_succ]
    refine wpAnyH_take (i := 7) (oi := { dst := some 10, op := Op.binOp BinOp.leq 3 (Operand.tmp 9) (Operand.const (Value.int IntKind.i64 4096)) 3, type := 4, pos := "journal.go:26", after := #[{ on := 6, ground := Ground.data }, { on := 3, ground := Ground.guard }], guard := some (3, true) }) (v := .bool true) rfl (by kernel_rfl) (by kernel_rfl) (by kernel_rfl) (fun _ _ _ h => h) (Or.inl ⟨by rfl, ?q307h⟩) hHeld ?q307r
    case q307h => (intro wq hSw; clear hSw; go_simp; try with_reducible rfl)
    try simp only [Act.put, List.setIfInBounds_toArray, List.set_cons_zero, List.set_cons_succ]
    refine wpAnyH_take (i := 8) (oi := { dst := some 11, op := Op.pick (Operand.tmp 6) (Operand.tmp 10) (Operand.const (Value.bool false)), type := 4, pos := "journal.go:26", after := #[{ on := 3, ground := Ground.data }, { on := 7, ground := Ground.data }], guard := none }) (v := ?q308v) rfl (by kernel_rfl) (by kernel_rfl) (by kernel_rfl) (fun _ _ _ h => h) (Or.inl ⟨by rfl, ?q308h⟩) hHeld ?q308r
    case q308h => (intro wq hSw; clear hSw; go_simp; try with_reducible rfl)
    try simp only [Act.put, List.setIfInBounds_toArray, List.set_cons_zero, List.set_cons_succ]
    refine wpAnyH_take (i := 9) (oi := { dst := some 12, op := Op.move (Operand.tmp 11), type := 4, pos := "journal.go:26", after := #[{ on := 8, ground := Ground.data }, { on := 3, ground := Ground.chain }], guard := none }) (v := ?q309v) rfl (by kernel_rfl) (by kernel_rfl) (by kernel_rfl) (fun _ _ _ h => h) (Or.inl ⟨by rfl, ?q309h⟩) hHeld ?q309r
    case q309h => (intro wq hSw; clear hSw; go_simp; try with_reducible rfl)
    try simp only [Act.put, List.setIfInBounds_toArray, List.set_cons_zero, List.set_cons_succ]
    refine wpAnyH_take (i := 10) (oi := { dst := some 13, op := Op.load 25 (Operand.tmp 1), type := 25, pos := "journal.go:26", after := #[{ on := 9, ground := Ground.guard }], guard := some (9, true) }) rfl (by kernel_rfl) (by kernel_rfl) (by kernel_rfl) (fun _ _ _ h => h) (yieldsIf_load_mid (by rfl) 25 (.tmp 1) rfl w.heap.size (0) rfl (lgCells (.slice a L.ents.length cap) L) _ (fun _ h => h) HUG.out rfl (info_lg)) hHeld ?_
    try simp only [Act.put, List.setIfInBounds_toArray, List.set_cons_zero, List.set_cons_succ]
    refine wpAnyH_ready (rs := [11]) (by kernel_rfl) (by simp) ?_
    refine AllReadyH.cons (o := { dst := some 14, op := Op.call { callee := Callee.value (Operand.func 18), args := #[Operand.tmp 13], argTypes := #[25] }, type := 4, pos := "journal.go:26", after := #[{ on := 10, ground := Ground.data }, { on := 9, ground := Ground.chain }, { on := 9, ground := Ground.guard }], guard := some (9, true) }) rfl (fun K hK => ?_) (AllReadyH.nil)
    go_simp
    go_wp2_with (go_at_call 18; refine (HIo2.out _ (HS21.out).old).mono ?_; rintro e w23 ⟨rfl, hb⟩)
    have HS22 : Hid (Hp w [.ob (w.heap.size) 25 (lgCells (.slice a L.ents.length cap) L)] w23) := (HS21.out).calls hb
    refine hK.out _ _ (fun j v hv => by rw [Nat.zero_add]; exact HS22.out.at 0 rfl j hv) (fun hHeld => ?_)
    clear hK K hb
    try simp only [Act.put, List.setIfInBounds_toArray, List.set_cons_zero, List.set_cons_succ]
    refine wpAnyH_take (i := 12) (oi := { dst := some 15, op := Op.pick (Operand.tmp 12) (Operand.tmp 14) (Operand.const (Value.bool false)), type := 4, pos := "journal.go:26", after := #[{ on := 9, ground := Ground.data }, { on := 11, ground := Ground.data }], guard := none }) (v := ?q311v) rfl (by kernel_rfl) (by kernel_rfl) (by kernel_rfl) (fun _ _ _ h => h) (Or.inl ⟨by rfl, ?q311h⟩) hHeld ?q311r
    case q311h => (intro wq hSw; clear hSw; go_simp; try with_reducible rfl)
    try simp only [Act.put, List.setIfInBounds_toArray, List.set_cons_zero, List.set_cons_succ]
    refine wpAnyH_take (i := 13) (oi := { dst := some 16, op := Op.move (Operand.tmp 15), type := 4, pos := "journal.go:26", after := #[{ on := 12, ground := Ground.data }, { on := 11, ground := Ground.chain }], guard := none }) (v := ?q312v) rfl (by kernel_rfl) (by kernel_rfl) (by kernel_rfl) (fun _ _ _ h => h) (Or.inl ⟨by rfl, ?q312h⟩) hHeld ?q312r
    case q312h => (intro wq hSw; clear hSw; go_simp; try with_reducible rfl)
    try simp only [Act.put, List.setIfInBounds_toArray, List.set_cons_zero, List.set_cons_succ]
    refine wpAnyH_take (i := 14) (oi := { dst := some 17, op := Op.fieldAddr 25 (Operand.tmp 1) 2, type := 0, pos := "journal.go:26", after := #[{ on := 13, ground := Ground.guard }], guard := some (13, true) }) (v := undef) rfl (by kernel_rfl) (by kernel_rfl) (by kernel_rfl) (fun _ _ _ h => h) (Or.inr ⟨by rfl, rfl⟩) hHeld ?_
    try simp only [Act.put, List.setIfInBounds_toArray, List.set_cons_zero, List.set_cons_succ]
    refine wpAnyH_take (i := 15) (oi := { dst := some 18, op := Op.load 3 (Operand.tmp 17), type := 3, pos := "journal.go:26", after := #[{ on := 14, ground := Ground.data }, { on := 13, ground := Ground.guard }], guard := some (13, true) }) (v := undef) rfl (by kernel_rfl) (by kernel_rfl) (by kernel_rfl) (fun _ _ _ h => h) (Or.inr ⟨by rfl, rfl⟩) hHeld ?_
    try simp only [Act.put, List.setIfInBounds_toArray, List.set_cons_zero, List.set_cons_succ]
    refine wpAnyH_take (i := 16) (oi := { dst := some 19, op := Op.fieldAddr 25 (Operand.tmp 1) 0, type := 0, pos := "journal.go:26", after := #[{ on := 13, ground := Ground.guard }], guard := some (13, true) }) (v := undef) rfl (by kernel_rfl) (by kernel_rfl) (by kernel_rfl) (fun _ _ _ h => h) (Or.inr ⟨by rfl, rfl⟩) hHeld ?_
    try simp only [Act.put, List.setIfInBounds_toArray, List.set_cons_zero, List.set_cons_succ]
    refine wpAnyH_take (i := 17) (oi := { dst := some 20, op := Op.load 3 (Operand.tmp 19), type := 3, pos := "journal.go:26", after := #[{ on := 16, ground := Ground.data }, { on := 13, ground := Ground.guard }], guard := some (13, true) }) (v := undef) rfl (by kernel_rfl) (by kernel_rfl) (by kernel_rfl) (fun _ _ _ h => h) (Or.inr ⟨by rfl, rfl⟩) hHeld ?_
    try simp only [Act.put, List.setIfInBounds_toArray, List.set_cons_zero, List.set_cons_succ]
    refine wpAnyH_take (i := 18) (oi := { dst := some 21, op := Op.binOp BinOp.sub 3 (Operand.tmp 20) (Operand.const (Value.int IntKind.i64 1)) 3, type := 3, pos := "journal.go:26", after := #[{ on := 17, ground := Ground.data }, { on := 13, ground := Ground.guard }], guard := some (13, true) }) (v := undef) rfl (by kernel_rfl) (by kernel_rfl) (by kernel_rfl) (fun _ _ _ h => h) (Or.inr ⟨by rfl, rfl⟩) hHeld ?_
    try simp only [Act.put, List.setIfInBounds_toArray, List.set_cons_zero, List.set_cons_succ]
    refine wpAnyH_take (i := 19) (oi := { dst := some 22, op := Op.binOp BinOp.geq 3 (Operand.tmp 18) (Operand.tmp 21) 3, type := 4, pos := "journal.go:26", after := #[{ on := 15, ground := Ground.data }, { on := 18, ground := Ground.data }, { on := 13, ground := Ground.guard }], guard := some (13, true) }) (v := undef) rfl (by kernel_rfl) (by kernel_rfl) (by kernel_rfl) (fun _ _ _ h => h) (Or.inr ⟨by rfl, rfl⟩) hHeld ?_
    try simp only [Act.put, List.setIfInBounds_toArray, List.set_cons_zero, List.set_cons_succ]
    refine wpAnyH_take (i := 20) (oi := { dst := some 23, op := Op.pick (Operand.tmp 16) (Operand.tmp 22) (Operand.const (Value.bool false)), type := 4, pos := "journal.go:26", after := #[{ on := 13, ground := Ground.data }, { on := 19, ground := Ground.data }], guard := none }) (v := ?q319v) rfl (by kernel_rfl) (by kernel_rfl) (by kernel_rfl) (fun _ _ _ h => h) (Or.inl ⟨by rfl, ?q319h⟩) hHeld ?q319r
    case q319h => (intro wq hSw; clear hSw; go_simp; try with_reducible rfl)
    try simp only [Act.put, List.setIfInBounds_toArray, List.set_cons_zero, List.set_cons_succ]
    refine wpAnyH_take (i := 21) (oi := { dst := some 24, op := Op.move (Operand.tmp 23), type := 4, pos := "journal.go:26", after := #[{ on := 20, ground := Ground.data }, { on := 13, ground := Ground.chain }], guard := none }) (v := ?q320v) rfl (by kernel_rfl) (by kernel_rfl) (by kernel_rfl) (fun _ _ _ h => h) (Or.inl ⟨by rfl, ?q320h⟩) hHeld ?q320r
    case q320h => (intro wq hSw; clear hSw; go_simp; try with_reducible rfl)
    try simp only [Act.put, List.setIfInBounds_toArray, List.set_cons_zero, List.set_cons_succ]
    refine wpAnyH_take (i := 22) (oi := { dst := some 25, op := Op.fieldAddr 25 (Operand.tmp 1) 2, type := 0, pos := "journal.go:26", after := #[{ on := 21, ground := Ground.guard }], guard := some (21, true) }) (v := undef) rfl (by kernel_rfl) (by kernel_rfl) (by kernel_rfl) (fun _ _ _ h => h) (Or.inr ⟨by rfl, rfl⟩) hHeld ?_
    try simp only [Act.put, List.setIfInBounds_toArray, List.set_cons_zero, List.set_cons_succ]
    refine wpAnyH_take (i := 23) (oi := { dst := some 26, op := Op.load 3 (Operand.tmp 25), type := 3, pos := "journal.go:26", after := #[{ on := 22, ground := Ground.data }, { on := 21, ground := Ground.guard }], guard := some (21, true) }) (v := undef) rfl (by kernel_rfl) (by kernel_rfl) (by kernel_rfl) (fun _ _ _ h => h) (Or.inr ⟨by rfl, rfl⟩) hHeld ?_
    try simp only [Act.put, List.setIfInBounds_toArray, List.set_cons_zero, List.set_cons_succ]
    refine wpAnyH_take (i := 24) (oi := { dst := some 27, op := Op.load 25 (Operand.tmp 1), type := 25, pos := "journal.go:26", after := #[{ on := 21, ground := Ground.guard }], guard := some (21, true) }) (v := undef) rfl (by kernel_rfl) (by kernel_rfl) (by kernel_rfl) (fun _ _ _ h => h) (Or.inr ⟨by rfl, rfl⟩) hHeld ?_
    try simp only [Act.put, List.setIfInBounds_toArray, List.set_cons_zero, List.set_cons_succ]
    refine wpAnyH_ready (rs := [25]) (by kernel_rfl) (by simp) ?_
    refine AllReadyH.cons (o := { dst := some 28, op := Op.call { callee := Callee.value (Operand.func 12), args := #[Operand.tmp 27], argTypes := #[25] }, type := 3, pos := "journal.go:27", after := #[{ on := 24, ground := Ground.data }, { on := 21, ground := Ground.chain }, { on := 21, ground := Ground.guard }], guard := some (21, true) }) rfl (fun K hK => ?_) (AllReadyH.nil)
    rw [if_neg (by exact Bool.false_ne_true)]
    have HS23 : Hid (Hp w [.ob (w.heap.size) 25 (lgCells (.slice a L.ents.length cap) L)] w23) := HS22.out
    refine hK.out _ _ (fun j v hv => by rw [Nat.zero_add]; exact HS23.out.at 0 rfl j hv) (fun hHeld => ?_)
    clear hK K
    try simp only [Act.put, List.setIfInBounds_toArray, List.set_cons_zero, List.set_cons_succ]
    refine wpAnyH_take (i := 26) (oi := { dst := some 29, op := Op.binOp BinOp.leq 3 (Operand.tmp 26) (Operand.tmp 28) 3, type := 4, pos := "journal.go:26", after := #[{ on := 23, ground := Ground.data }, { on := 25, ground := Ground.data }, { on := 21, ground := Ground.guard }], guard := some (21, true) }) (v := undef) rfl (by kernel_rfl) (by kernel_rfl) (by kernel_rfl) (fun _ _ _ h => h) (Or.inr ⟨by rfl, rfl⟩) hHeld ?_
    try simp only [Act.put, List.setIfInBounds_toArray, List.set_cons_zero, List.set_cons_succ]
    refine wpAnyH_take (i := 27) (oi := { dst := some 30, op := Op.pick (Operand.tmp 24) (Operand.tmp 29) (Operand.const (Value.bool false)), type := 4, pos := "journal.go:26", after := #[{ on := 21, ground := Ground.data }, { on := 26, ground := Ground.data }], guard := none }) (v := ?q325v) rfl (by kernel_rfl) (by kernel_rfl) (by kernel_rfl) (fun _ _ _ h => h) (Or.inl ⟨by rfl, ?q325h⟩) hHeld ?q325r
    case q325h => (intro wq hSw; clear hSw; go_simp; try with_reducible rfl)
    try simp only [Act.put, List.setIfInBounds_toArray, List.set_cons_zero, List.set_cons_succ]
    refine wpAnyH_take (i := 28) (oi := { dst := some 2, op := Op.assign (Operand.tmp 30), type := 4, pos := "journal.go:26", after := #[{ on := 27, ground := Ground.data }, { on := 25, ground := Ground.chain }, { on := 0, ground := Ground.phase }, { on := 1, ground := Ground.phase }, { on := 2, ground := Ground.phase }, { on := 3, ground := Ground.phase }, { on := 4, ground := Ground.phase }, { on := 5, ground := Ground.phase }, { on := 6, ground := Ground.phase }, { on := 7, ground := Ground.phase }, { on := 8, ground := Ground.phase }, { on := 9, ground := Ground.phase }, { on := 10, ground := Ground.phase }, { on := 11, ground := Ground.phase }, { on := 12, ground := Ground.phase }, { on := 13, ground := Ground.phase }, { on := 14, ground := Ground.phase }, { on := 15, ground := Ground.phase }, { on := 16, ground := Ground.phase }, { on := 17, ground := Ground.phase }, { on := 18, ground := Ground.phase }, { on := 19, ground := Ground.phase }, { on := 20, ground := Ground.phase }, { on := 21, ground := Ground.phase }, { on := 22, ground := Ground.phase }, { on := 23, ground := Ground.phase }, { on := 24, ground := Ground.phase }, { on := 25, ground := Ground.phase }, { on := 26, ground := Ground.phase }, { on := 27, ground := Ground.phase }], guard := none }) (v := ?q326v) rfl (by kernel_rfl) (by kernel_rfl) (by kernel_rfl) (fun _ _ _ h => h) (Or.inl ⟨by rfl, ?q326h⟩) hHeld ?q326r
    case q326h => (intro wq hSw; clear hSw; go_simp; try with_reducible rfl)
    try simp only [Act.put, List.setIfInBounds_toArray, List.set_cons_zero, List.set_cons_succ]
    refine wpAnyH_done (by kernel_rfl) ?_ _
    go_wp2_with fail
    go_ret
    exact ⟨by rw [HX.out]; rfl, HS23.out.old⟩
  case true =>
  by_cases hd : L.first - 1 ≤ L.dur
  case neg =>
    have HX : Hid (lgOkB L = false) := by show _ = _; rw [HOk.out, decide_eq_true hl, decide_eq_false hd]; first | rfl | simp
    refine wp_region_held_drew (S := fun w' => w'.rangeAt w.heap.size 0 (lgCells (.slice a L.ents.length cap) L)) (by kernel_rfl) (fun j v hv => by rw [Nat.zero_add]; exact (HS0.out.drew).at 0 rfl j hv) (fun hHeld => ?_)
    refine wpAnyH_take (i := 0) (oi := { dst := some 3, op := Op.fieldAddr 25 (Operand.tmp 1) 0, type := 0, pos := "journal.go:26", after := #[], guard := none }) (v := ?q401v) rfl (by kernel_rfl) (by kernel_rfl) (by kernel_rfl) (fun _ _ _ h => h) (Or.inl ⟨by rfl, ?q401h⟩) hHeld ?q401r
    case q401h => (intro wq hSw; clear hSw; go_simp; try with_reducible rfl)
    try simp only [Act.put, List.setIfInBounds_toArray, List.set_cons_zero, List.set_cons_succ]
    refine wpAnyH_take (i := 1) (oi := { dst := some 4, op := Op.load 3 (Operand.tmp 3), type := 3, pos := "journal.go:26", after := #[{ on := 0, ground := Ground.data }], guard := none }) (v := ?q402v) rfl (by kernel_rfl) (by kernel_rfl) (by kernel_rfl) (fun _ _ _ h => h) (Or.inl ⟨by rfl, ?q402h⟩) hHeld ?q402r
    case q402h => (intro wq hSw; have hq := hSw 0 _ rfl; simp only [Nat.zero_add] at hq; clear hSw; go_simp; try with_reducible rfl)
    try simp only [Act.put, List.setIfInBounds_toArray, List.set_cons_zero, List.set_cons_succ]
    refine wpAnyH_ready (rs := [2]) (by kernel_rfl) (by simp) ?_
    refine AllReadyH.cons (o := { dst := some 5, op := Op.call { callee := Callee.value (Operand.func 17), args := #[Operand.tmp 4], argTypes := #[3] }, type := 4, pos := "journal.go:26", after := #[{ on := 1, ground := Ground.data }], guard := none }) rfl (fun K hK => ?_) (AllReadyH.nil)
    go_simp
    go_wp2_with (go_at_call 17; refine (HVf.out _).mono ?_; rintro e w21 ⟨rfl, rfl⟩)
    have HS21 : Hid (Hp w [.ob (w.heap.size) 25 (lgCells (.slice a L.ents.length cap) L)] ((w.alloc (.cells (lgCells (.slice a L.ents.length cap) L).toArray 25)).drew)) := (HS0.out).drew
    refine hK.out _ _ (fun j v hv => by rw [Nat.zero_add]; exact HS21.out.at 0 rfl j hv) (fun hHeld => ?_)
    clear hK K
    generalize ((w.alloc (.cells (lgCells (.slice a L.ents.length cap) L).toArray 25)).drew) = w22 at *
    try simp only [Act.put, List.setIfInBounds_toArray, List.set_cons_zero, List.set_cons_succ]
    refine wpAnyH_take (i := 3) (oi := { dst := some 6, op := Op.move (Operand.tmp 5), type := 4, pos := "journal.go:26", after := #[{ on := 2, ground := Ground.data }, { on := 2, ground := Ground.chain }], guard := none }) (v := ?q403v) rfl (by kernel_rfl) (by kernel_rfl) (by kernel_rfl) (fun _ _ _ h => h) (Or.inl ⟨by rfl, ?q403h⟩) hHeld ?q403r
    case q403h => (intro wq hSw; clear hSw; go_simp; try with_reducible rfl)
    try simp only [Act.put, List.setIfInBounds_toArray, List.set_cons_zero, List.set_cons_succ]
    refine wpAnyH_take (i := 4) (oi := { dst := some 7, op := Op.fieldAddr 25 (Operand.tmp 1) 1, type := 0, pos := "journal.go:26", after := #[{ on := 3, ground := Ground.guard }], guard := some (3, true) }) (v := ?q404v) rfl (by kernel_rfl) (by kernel_rfl) (by kernel_rfl) (fun _ _ _ h => h) (Or.inl ⟨by rfl, ?q404h⟩) hHeld ?q404r
    case q404h => (intro wq hSw; clear hSw; go_simp; try with_reducible rfl)
    try simp only [Act.put, List.setIfInBounds_toArray, List.set_cons_zero, List.set_cons_succ]
    refine wpAnyH_take (i := 5) (oi := { dst := some 8, op := Op.load 23 (Operand.tmp 7), type := 23, pos := "journal.go:26", after := #[{ on := 4, ground := Ground.data }, { on := 3, ground := Ground.guard }], guard := some (3, true) }) (v := ?q405v) rfl (by kernel_rfl) (by kernel_rfl) (by kernel_rfl) (fun _ _ _ h => h) (Or.inl ⟨by rfl, ?q405h⟩) hHeld ?q405r
    case q405h => (intro wq hSw; have hq := hSw 1 _ rfl; simp only [Nat.zero_add] at hq; clear hSw; go_simp; try with_reducible rfl)
    try simp only [Act.put, List.setIfInBounds_toArray, List.set_cons_zero, List.set_cons_succ]
    refine wpAnyH_take (i := 6) (oi := { dst := some 9, op := Op.call { callee := Callee.builtin Builtin.len, args := #[Operand.tmp 8], argTypes := #[23] }, type := 3, pos := "journal.go:26", after := #[{ on := 5, ground := Ground.data }, { on := 3, ground := Ground.guard }], guard := some (3, true) }) (v := ?q406v) rfl (by kernel_rfl) (by kernel_rfl) (by kernel_rfl) (fun _ _ _ h => h) (Or.inl ⟨by rfl, ?q406h⟩) hHeld ?q406r
    case q406h => (intro wq hSw; clear hSw; go_simp; try with_reducible rfl)
    try simp only [Act.put, List.setIfInBounds_toArray, List.set_cons_zero, List.set_cons_succ]
    refine wpAnyH_take (i := 7) (oi := { dst := some 10, op := Op.binOp BinOp.leq 3 (Operand.tmp 9) (Operand.const (Value.int IntKind.i64 4096)) 3, type := 4, pos := "journal.go:26", after := #[{ on := 6, ground := Ground.data }, { on := 3, ground := Ground.guard }], guard := some (3, true) }) (v := .bool true) rfl (by kernel_rfl) (by kernel_rfl) (by kernel_rfl) (fun _ _ _ h => h) (Or.inl ⟨by rfl, ?q407h⟩) hHeld ?q407r
    case q407h => (intro wq hSw; clear hSw; go_simp; try with_reducible rfl)
    try simp only [Act.put, List.setIfInBounds_toArray, List.set_cons_zero, List.set_cons_succ]
    refine wpAnyH_take (i := 8) (oi := { dst := some 11, op := Op.pick (Operand.tmp 6) (Operand.tmp 10) (Operand.const (Value.bool false)), type := 4, pos := "journal.go:26", after := #[{ on := 3, ground := Ground.data }, { on := 7, ground := Ground.data }], guard := none }) (v := ?q408v) rfl (by kernel_rfl) (by kernel_rfl) (by kernel_rfl) (fun _ _ _ h => h) (Or.inl ⟨by rfl, ?q408h⟩) hHeld ?q408r
    case q408h => (intro wq hSw; clear hSw; go_simp; try with_reducible rfl)
    try simp only [Act.put, List.setIfInBounds_toArray, List.set_cons_zero, List.set_cons_succ]
    refine wpAnyH_take (i := 9) (oi := { dst := some 12, op := Op.move (Operand.tmp 11), type := 4, pos := "journal.go:26", after := #[{ on := 8, ground := Ground.data }, { on := 3, ground := Ground.chain }], guard := none }) (v := ?q409v) rfl (by kernel_rfl) (by kernel_rfl) (by kernel_rfl) (fun _ _ _ h => h) (Or.inl ⟨by rfl, ?q409h⟩) hHeld ?q409r
    case q409h => (intro wq hSw; clear hSw; go_simp; try with_reducible rfl)
    try simp only [Act.put, List.setIfInBounds_toArray, List.set_cons_zero, List.set_cons_succ]
    refine wpAnyH_take (i := 10) (oi := { dst := some 13, op := Op.load 25 (Operand.tmp 1), type := 25, pos := "journal.go:26", after := #[{ on := 9, ground := Ground.guard }], guard := some (9, true) }) rfl (by kernel_rfl) (by kernel_rfl) (by kernel_rfl) (fun _ _ _ h => h) (yieldsIf_load_mid (by rfl) 25 (.tmp 1) rfl w.heap.size (0) rfl (lgCells (.slice a L.ents.length cap) L) _ (fun _ h => h) HUG.out rfl (info_lg)) hHeld ?_
    try simp only [Act.put, List.setIfInBounds_toArray, List.set_cons_zero, List.set_cons_succ]
    refine wpAnyH_ready (rs := [11]) (by kernel_rfl) (by simp) ?_
    refine AllReadyH.cons (o := { dst := some 14, op := Op.call { callee := Callee.value (Operand.func 18), args := #[Operand.tmp 13], argTypes := #[25] }, type := 4, pos := "journal.go:26", after := #[{ on := 10, ground := Ground.data }, { on := 9, ground := Ground.chain }, { on := 9, ground := Ground.guard }], guard := some (9, true) }) rfl (fun K hK => ?_) (AllReadyH.nil)
    go_simp
    go_wp2_with (go_at_call 18; refine (HIo2.out _ (HS21.out).old).mono ?_; rintro e w23 ⟨rfl, hb⟩)
    have HS22 : Hid (Hp w [.ob (w.heap.size) 25 (lgCells (.slice a L.ents.length cap) L)] w23) := (HS21.out).calls hb
    refine hK.out _ _ (fun j v hv => by rw [Nat.zero_add]; exact HS22.out.at 0 rfl j hv) (fun hHeld => ?_)
    clear hK K hb
    try simp only [Act.put, List.setIfInBounds_toArray, List.set_cons_zero, List.set_cons_succ]
    refine wpAnyH_take (i := 12) (oi := { dst := some 15, op := Op.pick (Operand.tmp 12) (Operand.tmp 14) (Operand.const (Value.bool false)), type := 4, pos := "journal.go:26", after := #[{ on := 9, ground := Ground.data }, { on := 11, ground := Ground.data }], guard := none }) (v := ?q411v) rfl (by kernel_rfl) (by kernel_rfl) (by kernel_rfl) (fun _ _ _ h => h) (Or.inl ⟨by rfl, ?q411h⟩) hHeld ?q411r
    case q411h => (intro wq hSw; clear hSw; go_simp; try with_reducible rfl)
    try simp only [Act.put, List.setIfInBounds_toArray, List.set_cons_zero, List.set_cons_succ]
    refine wpAnyH_take (i := 13) (oi := { dst := some 16, op := Op.move (Operand.tmp 15), type := 4, pos := "journal.go:26", after := #[{ on := 12, ground := Ground.data }, { on := 11, ground := Ground.chain }], guard := none }) (v := ?q412v) rfl (by kernel_rfl) (by kernel_rfl) (by kernel_rfl) (fun _ _ _ h => h) (Or.inl ⟨by rfl, ?q412h⟩) hHeld ?q412r
    case q412h => (intro wq hSw; clear hSw; go_simp; try with_reducible rfl)
    try simp only [Act.put, List.setIfInBounds_toArray, List.set_cons_zero, List.set_cons_succ]
    refine wpAnyH_take (i := 14) (oi := { dst := some 17, op := Op.fieldAddr 25 (Operand.tmp 1) 2, type := 0, pos := "journal.go:26", after := #[{ on := 13, ground := Ground.guard }], guard := some (13, true) }) (v := ?q413v) rfl (by kernel_rfl) (by kernel_rfl) (by kernel_rfl) (fun _ _ _ h => h) (Or.inl ⟨by rfl, ?q413h⟩) hHeld ?q413r
    case q413h => (intro wq hSw; clear hSw; go_simp; try with_reducible rfl)
    try simp only [Act.put, List.setIfInBounds_toArray, List.set_cons_zero, List.set_cons_succ]
    refine wpAnyH_take (i := 15) (oi := { dst := some 18, op := Op.load 3 (Operand.tmp 17), type := 3, pos := "journal.go:26", after := #[{ on := 14, ground := Ground.data }, { on := 13, ground := Ground.guard }], guard := some (13, true) }) (v := ?q414v) rfl (by kernel_rfl) (by kernel_rfl) (by kernel_rfl) (fun _ _ _ h => h) (Or.inl ⟨by rfl, ?q414h⟩) hHeld ?q414r
    case q414h => (intro wq hSw; have hq := hSw 2 _ rfl; simp only [Nat.zero_add] at hq; clear hSw; go_simp; try with_reducible rfl)
    try simp only [Act.put, List.setIfInBounds_toArray, List.set_cons_zero, List.set_cons_succ]
    refine wpAnyH_take (i := 16) (oi := { dst := some 19, op := Op.fieldAddr 25 (Operand.tmp 1) 0, type := 0, pos := "journal.go:26", after := #[{ on := 13, ground := Ground.guard }], guard := some (13, true) }) (v := ?q415v) rfl (by kernel_rfl) (by kernel_rfl) (by kernel_rfl) (fun _ _ _ h => h) (Or.inl ⟨by rfl, ?q415h⟩) hHeld ?q415r
    case q415h => (intro wq hSw; clear hSw; go_simp; try with_reducible rfl)
    try simp only [Act.put, List.setIfInBounds_toArray, List.set_cons_zero, List.set_cons_succ]
    refine wpAnyH_take (i := 17) (oi := { dst := some 20, op := Op.load 3 (Operand.tmp 19), type := 3, pos := "journal.go:26", after := #[{ on := 16, ground := Ground.data }, { on := 13, ground := Ground.guard }], guard := some (13, true) }) (v := ?q416v) rfl (by kernel_rfl) (by kernel_rfl) (by kernel_rfl) (fun _ _ _ h => h) (Or.inl ⟨by rfl, ?q416h⟩) hHeld ?q416r
    case q416h => (intro wq hSw; have hq := hSw 0 _ rfl; simp only [Nat.zero_add] at hq; clear hSw; go_simp; try with_reducible rfl)
    try simp only [Act.put, List.setIfInBounds_toArray, List.set_cons_zero, List.set_cons_succ]
    refine wpAnyH_take (i := 18) (oi := { dst := some 21, op := Op.binOp BinOp.sub 3 (Operand.tmp 20) (Operand.const (Value.int IntKind.i64 1)) 3, type := 3, pos := "journal.go:26", after := #[{ on := 17, ground := Ground.data }, { on := 13, ground := Ground.guard }], guard := some (13, true) }) (v := ?q417v) rfl (by kernel_rfl) (by kernel_rfl) (by kernel_rfl) (fun _ _ _ h => h) (Or.inl ⟨by rfl, ?q417h⟩) hHeld ?q417r
    case q417h => (intro wq hSw; clear hSw; go_simp; try with_reducible rfl)
    try simp only [Act.put, List.setIfInBounds_toArray, List.set_cons_zero, List.set_cons_succ]
    refine wpAnyH_take (i := 19) (oi := { dst := some 22, op := Op.binOp BinOp.geq 3 (Operand.tmp 18) (Operand.tmp 21) 3, type := 4, pos := "journal.go:26", after := #[{ on := 15, ground := Ground.data }, { on := 18, ground := Ground.data }, { on := 13, ground := Ground.guard }], guard := some (13, true) }) (v := .bool false) rfl (by kernel_rfl) (by kernel_rfl) (by kernel_rfl) (fun _ _ _ h => h) (Or.inl ⟨by rfl, ?q418h⟩) hHeld ?q418r
    case q418h => (intro wq hSw; clear hSw; go_simp; try with_reducible rfl)
    try simp only [Act.put, List.setIfInBounds_toArray, List.set_cons_zero, List.set_cons_succ]
    refine wpAnyH_take (i := 20) (oi := { dst := some 23, op := Op.pick (Operand.tmp 16) (Operand.tmp 22) (Operand.const (Value.bool false)), type := 4, pos := "journal.go:26", after := #[{ on := 13, ground := Ground.data }, { on := 19, ground := Ground.data }], guard := none }) (v := ?q419v) rfl (by kernel_rfl) (by kernel_rfl) (by kernel_rfl) (fun _ _ _ h => h) (Or.inl ⟨by rfl, ?q419h⟩) hHeld ?q419r
    case q419h => (intro wq hSw; clear hSw; go_simp; try with_reducible rfl)
    try simp only [Act.put, List.setIfInBounds_toArray, List.set_cons_zero, List.set_cons_succ]
    refine wpAnyH_take (i := 21) (oi := { dst := some 24, op := Op.move (Operand.tmp 23), type := 4, pos := "journal.go:26", after := #[{ on := 20, ground := Ground.data }, { on := 13, ground := Ground.chain }], guard := none }) (v := ?q420v) rfl (by kernel_rfl) (by kernel_rfl) (by kernel_rfl) (fun _ _ _ h => h) (Or.inl ⟨by rfl, ?q420h⟩) hHeld ?q420r
    case q420h => (intro wq hSw; clear hSw; go_simp; try with_reducible rfl)
    try simp only [Act.put, List.setIfInBounds_toArray, List.set_cons_zero, List.set_cons_succ]
    refine wpAnyH_take (i := 22) (oi := { dst := some 25, op := Op.fieldAddr 25 (Operand.tmp 1) 2, type := 0, pos := "journal.go:26", after := #[{ on := 21, ground := Ground.guard }], guard := some (21, true) }) (v := undef) rfl (by kernel_rfl) (by kernel_rfl) (by kernel_rfl) (fun _ _ _ h => h) (Or.inr ⟨by rfl, rfl⟩) hHeld ?_
    try simp only [Act.put, List.setIfInBounds_toArray, List.set_cons_zero, List.set_cons_succ]
    refine wpAnyH_take (i := 23) (oi := { dst := some 26, op := Op.load 3 (Operand.tmp 25), type := 3, pos := "journal.go:26", after := #[{ on := 22, ground := Ground.data }, { on := 21, ground := Ground.guard }], guard := some (21, true) }) (v := undef) rfl (by kernel_rfl) (by kernel_rfl) (by kernel_rfl) (fun _ _ _ h => h) (Or.inr ⟨by rfl, rfl⟩) hHeld ?_
    try simp only [Act.put, List.setIfInBounds_toArray, List.set_cons_zero, List.set_cons_succ]
    refine wpAnyH_take (i := 24) (oi := { dst := some 27, op := Op.load 25 (Operand.tmp 1), type := 25, pos := "journal.go:26", after := #[{ on := 21, ground := Ground.guard }], guard := some (21, true) }) (v := undef) rfl (by kernel_rfl) (by kernel_rfl) (by kernel_rfl) (fun _ _ _ h => h) (Or.inr ⟨by rfl, rfl⟩) hHeld ?_
    try simp only [Act.put, List.setIfInBounds_toArray, List.set_cons_zero, List.set_cons_succ]
    refine wpAnyH_ready (rs := [25]) (by kernel_rfl) (by simp) ?_
    refine AllReadyH.cons (o := { dst := some 28, op := Op.call { callee := Callee.value (Operand.func 12), args := #[Operand.tmp 27], argTypes := #[25] }, type := 3, pos := "journal.go:27", after := #[{ on := 24, ground := Ground.data }, { on := 21, ground := Ground.chain }, { on := 21, ground := Ground.guard }], guard := some (21, true) }) rfl (fun K hK => ?_) (AllReadyH.nil)
    rw [if_neg (by exact Bool.false_ne_true)]
    have HS23 : Hid (Hp w [.ob (w.heap.size) 25 (lgCells (.slice a L.ents.length cap) L)] w23) := HS22.out
    refine hK.out _ _ (fun j v hv => by rw [Nat.zero_add]; exact HS23.out.at 0 rfl j hv) (fun hHeld => ?_)
    clear hK K
    try simp only [Act.put, List.setIfInBounds_toArray, List.set_cons_zero, List.set_cons_succ]
    refine wpAnyH_take (i := 26) (oi := { dst := some 29, op := Op.binOp BinOp.leq 3 (Operand.tmp 26) (Operand.tmp 28) 3, type := 4, pos := "journal.go:26", after := #[{ on := 23, ground := Ground.data }, { on := 25, ground := Ground.data }, { on := 21, ground := Ground.guard }], guard := some (21, true) }) (v := undef) rfl (by kernel_rfl) (by kernel_rfl) (by kernel_rfl) (fun _ _ _ h => h) (Or.inr ⟨by rfl, rfl⟩) hHeld ?_
    try simp only [Act.put, List.setIfInBounds_toArray, List.set_cons_zero, List.set_cons_succ]
    refine wpAnyH_take (i := 27) (oi := { dst := some 30, op := Op.pick (Operand.tmp 24) (Operand.tmp 29) (Operand.const (Value.bool false)), type := 4, pos := "journal.go:26", after := #[{ on := 21, ground := Ground.data }, { on := 26, ground := Ground.data }], guard := none }) (v := ?q425v) rfl (by kernel_rfl) (by kernel_rfl) (by kernel_rfl) (fun _ _ _ h => h) (Or.inl ⟨by rfl, ?q425h⟩) hHeld ?q425r
    case q425h => (intro wq hSw; clear hSw; go_simp; try with_reducible rfl)
    try simp only [Act.put, List.setIfInBounds_toArray, List.set_cons_zero, List.set_cons_succ]
    refine wpAnyH_take (i := 28) (oi := { dst := some 2, op := Op.assign (Operand.tmp 30), type := 4, pos := "journal.go:26", after := #[{ on := 27, ground := Ground.data }, { on := 25, ground := Ground.chain }, { on := 0, ground := Ground.phase }, { on := 1, ground := Ground.phase }, { on := 2, ground := Ground.phase }, { on := 3, ground := Ground.phase }, { on := 4, ground := Ground.phase }, { on := 5, ground := Ground.phase }, { on := 6, ground := Ground.phase }, { on := 7, ground := Ground.phase }, { on := 8, ground := Ground.phase }, { on := 9, ground := Ground.phase }, { on := 10, ground := Ground.phase }, { on := 11, ground := Ground.phase }, { on := 12, ground := Ground.phase }, { on := 13, ground := Ground.phase }, { on := 14, ground := Ground.phase }, { on := 15, ground := Ground.phase }, { on := 16, ground := Ground.phase }, { on := 17, ground := Ground.phase }, { on := 18, ground := Ground.phase }, { on := 19, ground := Ground.phase }, { on := 20, ground := Ground.phase }, { on := 21, ground := Ground.phase }, { on := 22, ground := Ground.phase }, { on := 23, ground := Ground.phase }, { on := 24, ground := Ground.phase }, { on := 25, ground := Ground.phase }, { on := 26, ground := Ground.phase }, { on := 27, ground := Ground.phase }], guard := none }) (v := ?q426v) rfl (by kernel_rfl) (by kernel_rfl) (by kernel_rfl) (fun _ _ _ h => h) (Or.inl ⟨by rfl, ?q426h⟩) hHeld ?q426r
    case q426h => (intro wq hSw; clear hSw; go_simp; try with_reducible rfl)
    try simp only [Act.put, List.setIfInBounds_toArray, List.set_cons_zero, List.set_cons_succ]
    refine wpAnyH_done (by kernel_rfl) ?_ _
    go_wp2_with fail
    go_ret
    exact ⟨by rw [HX.out]; rfl, HS23.out.old⟩
  case pos =>
  by_cases he : L.dur ≤ endI L
  case neg =>
    have HX : Hid (lgOkB L = false) := by show _ = _; rw [HOk.out, decide_eq_true hl, decide_eq_true hd, decide_eq_false he]; first | rfl | simp
    refine wp_region_held_drew (S := fun w' => w'.rangeAt w.heap.size 0 (lgCells (.slice a L.ents.length cap) L)) (by kernel_rfl) (fun j v hv => by rw [Nat.zero_add]; exact (HS0.out.drew).at 0 rfl j hv) (fun hHeld => ?_)
    refine wpAnyH_take (i := 0) (oi := { dst := some 3, op := Op.fieldAddr 25 (Operand.tmp 1) 0, type := 0, pos := "journal.go:26", after := #[], guard := none }) (v := ?q501v) rfl (by kernel_rfl) (by kernel_rfl) (by kernel_rfl) (fun _ _ _ h => h) (Or.inl ⟨by rfl, ?q501h⟩) hHeld ?q501r
    case q501h => (intro wq hSw; clear hSw; go_simp; try with_reducible rfl)
    try simp only [Act.put, List.setIfInBounds_toArray, List.set_cons_zero, List.set_cons_succ]
    refine wpAnyH_take (i := 1) (oi := { dst := some 4, op := Op.load 3 (Operand.tmp 3), type := 3, pos := "journal.go:26", after := #[{ on := 0, ground := Ground.data }], guard := none }) (v := ?q502v) rfl (by kernel_rfl) (by kernel_rfl) (by kernel_rfl) (fun _ _ _ h => h) (Or.inl ⟨by rfl, ?q502h⟩) hHeld ?q502r
    case q502h => (intro wq hSw; have hq := hSw 0 _ rfl; simp only [Nat.zero_add] at hq; clear hSw; go_simp; try with_reducible rfl)
    try simp only [Act.put, List.setIfInBounds_toArray, List.set_cons_zero, List.set_cons_succ]
    refine wpAnyH_ready (rs := [2]) (by kernel_rfl) (by simp) ?_
    refine AllReadyH.cons (o := { dst := some 5, op := Op.call { callee := Callee.value (Operand.func 17), args := #[Operand.tmp 4], argTypes := #[3] }, type := 4, pos := "journal.go:26", after := #[{ on := 1, ground := Ground.data }], guard := none }) rfl (fun K hK => ?_) (AllReadyH.nil)
    go_simp
    go_wp2_with (go_at_call 17; refine (HVf.out _).mono ?_; rintro e w21 ⟨rfl, rfl⟩)
    have HS21 : Hid (Hp w [.ob (w.heap.size) 25 (lgCells (.slice a L.ents.length cap) L)] ((w.alloc (.cells (lgCells (.slice a L.ents.length cap) L).toArray 25)).drew)) := (HS0.out).drew
    refine hK.out _ _ (fun j v hv => by rw [Nat.zero_add]; exact HS21.out.at 0 rfl j hv) (fun hHeld => ?_)
    clear hK K
    generalize ((w.alloc (.cells (lgCells (.slice a L.ents.length cap) L).toArray 25)).drew) = w22 at *
    try simp only [Act.put, List.setIfInBounds_toArray, List.set_cons_zero, List.set_cons_succ]
    refine wpAnyH_take (i := 3) (oi := { dst := some 6, op := Op.move (Operand.tmp 5), type := 4, pos := "journal.go:26", after := #[{ on := 2, ground := Ground.data }, { on := 2, ground := Ground.chain }], guard := none }) (v := ?q503v) rfl (by kernel_rfl) (by kernel_rfl) (by kernel_rfl) (fun _ _ _ h => h) (Or.inl ⟨by rfl, ?q503h⟩) hHeld ?q503r
    case q503h => (intro wq hSw; clear hSw; go_simp; try with_reducible rfl)
    try simp only [Act.put, List.setIfInBounds_toArray, List.set_cons_zero, List.set_cons_succ]
    refine wpAnyH_take (i := 4) (oi := { dst := some 7, op := Op.fieldAddr 25 (Operand.tmp 1) 1, type := 0, pos := "journal.go:26", after := #[{ on := 3, ground := Ground.guard }], guard := some (3, true) }) (v := ?q504v) rfl (by kernel_rfl) (by kernel_rfl) (by kernel_rfl) (fun _ _ _ h => h) (Or.inl ⟨by rfl, ?q504h⟩) hHeld ?q504r
    case q504h => (intro wq hSw; clear hSw; go_simp; try with_reducible rfl)
    try simp only [Act.put, List.setIfInBounds_toArray, List.set_cons_zero, List.set_cons_succ]
    refine wpAnyH_take (i := 5) (oi := { dst := some 8, op := Op.load 23 (Operand.tmp 7), type := 23, pos := "journal.go:26", after := #[{ on := 4, ground := Ground.data }, { on := 3, ground := Ground.guard }], guard := some (3, true) }) (v := ?q505v) rfl (by kernel_rfl) (by kernel_rfl) (by kernel_rfl) (fun _ _ _ h => h) (Or.inl ⟨by rfl, ?q505h⟩) hHeld ?q505r
    case q505h => (intro wq hSw; have hq := hSw 1 _ rfl; simp only [Nat.zero_add] at hq; clear hSw; go_simp; try with_reducible rfl)
    try simp only [Act.put, List.setIfInBounds_toArray, List.set_cons_zero, List.set_cons_succ]
    refine wpAnyH_take (i := 6) (oi := { dst := some 9, op := Op.call { callee := Callee.builtin Builtin.len, args := #[Operand.tmp 8], argTypes := #[23] }, type := 3, pos := "journal.go:26", after := #[{ on := 5, ground := Ground.data }, { on := 3, ground := Ground.guard }], guard := some (3, true) }) (v := ?q506v) rfl (by kernel_rfl) (by kernel_rfl) (by kernel_rfl) (fun _ _ _ h => h) (Or.inl ⟨by rfl, ?q506h⟩) hHeld ?q506r
    case q506h => (intro wq hSw; clear hSw; go_simp; try with_reducible rfl)
    try simp only [Act.put, List.setIfInBounds_toArray, List.set_cons_zero, List.set_cons_succ]
    refine wpAnyH_take (i := 7) (oi := { dst := some 10, op := Op.binOp BinOp.leq 3 (Operand.tmp 9) (Operand.const (Value.int IntKind.i64 4096)) 3, type := 4, pos := "journal.go:26", after := #[{ on := 6, ground := Ground.data }, { on := 3, ground := Ground.guard }], guard := some (3, true) }) (v := .bool true) rfl (by kernel_rfl) (by kernel_rfl) (by kernel_rfl) (fun _ _ _ h => h) (Or.inl ⟨by rfl, ?q507h⟩) hHeld ?q507r
    case q507h => (intro wq hSw; clear hSw; go_simp; try with_reducible rfl)
    try simp only [Act.put, List.setIfInBounds_toArray, List.set_cons_zero, List.set_cons_succ]
    refine wpAnyH_take (i := 8) (oi := { dst := some 11, op := Op.pick (Operand.tmp 6) (Operand.tmp 10) (Operand.const (Value.bool false)), type := 4, pos := "journal.go:26", after := #[{ on := 3, ground := Ground.data }, { on := 7, ground := Ground.data }], guard := none }) (v := ?q508v) rfl (by kernel_rfl) (by kernel_rfl) (by kernel_rfl) (fun _ _ _ h => h) (Or.inl ⟨by rfl, ?q508h⟩) hHeld ?q508r
    case q508h => (intro wq hSw; clear hSw; go_simp; try with_reducible rfl)
    try simp only [Act.put, List.setIfInBounds_toArray, List.set_cons_zero, List.set_cons_succ]
    refine wpAnyH_take (i := 9) (oi := { dst := some 12, op := Op.move (Operand.tmp 11), type := 4, pos := "journal.go:26", after := #[{ on := 8, ground := Ground.data }, { on := 3, ground := Ground.chain }], guard := none }) (v := ?q509v) rfl (by kernel_rfl) (by kernel_rfl) (by kernel_rfl) (fun _ _ _ h => h) (Or.inl ⟨by rfl, ?q509h⟩) hHeld ?q509r
    case q509h => (intro wq hSw; clear hSw; go_simp; try with_reducible rfl)
    try simp only [Act.put, List.setIfInBounds_toArray, List.set_cons_zero, List.set_cons_succ]
    refine wpAnyH_take (i := 10) (oi := { dst := some 13, op := Op.load 25 (Operand.tmp 1), type := 25, pos := "journal.go:26", after := #[{ on := 9, ground := Ground.guard }], guard := some (9, true) }) rfl (by kernel_rfl) (by kernel_rfl) (by kernel_rfl) (fun _ _ _ h => h) (yieldsIf_load_mid (by rfl) 25 (.tmp 1) rfl w.heap.size (0) rfl (lgCells (.slice a L.ents.length cap) L) _ (fun _ h => h) HUG.out rfl (info_lg)) hHeld ?_
    try simp only [Act.put, List.setIfInBounds_toArray, List.set_cons_zero, List.set_cons_succ]
    refine wpAnyH_ready (rs := [11]) (by kernel_rfl) (by simp) ?_
    refine AllReadyH.cons (o := { dst := some 14, op := Op.call { callee := Callee.value (Operand.func 18), args := #[Operand.tmp 13], argTypes := #[25] }, type := 4, pos := "journal.go:26", after := #[{ on := 10, ground := Ground.data }, { on := 9, ground := Ground.chain }, { on := 9, ground := Ground.guard }], guard := some (9, true) }) rfl (fun K hK => ?_) (AllReadyH.nil)
    go_simp
    go_wp2_with (go_at_call 18; refine (HIo2.out _ (HS21.out).old).mono ?_; rintro e w23 ⟨rfl, hb⟩)
    have HS22 : Hid (Hp w [.ob (w.heap.size) 25 (lgCells (.slice a L.ents.length cap) L)] w23) := (HS21.out).calls hb
    refine hK.out _ _ (fun j v hv => by rw [Nat.zero_add]; exact HS22.out.at 0 rfl j hv) (fun hHeld => ?_)
    clear hK K hb
    try simp only [Act.put, List.setIfInBounds_toArray, List.set_cons_zero, List.set_cons_succ]
    refine wpAnyH_take (i := 12) (oi := { dst := some 15, op := Op.pick (Operand.tmp 12) (Operand.tmp 14) (Operand.const (Value.bool false)), type := 4, pos := "journal.go:26", after := #[{ on := 9, ground := Ground.data }, { on := 11, ground := Ground.data }], guard := none }) (v := ?q511v) rfl (by kernel_rfl) (by kernel_rfl) (by kernel_rfl) (fun _ _ _ h => h) (Or.inl ⟨by rfl, ?q511h⟩) hHeld ?q511r
    case q511h => (intro wq hSw; clear hSw; go_simp; try with_reducible rfl)
    try simp only [Act.put, List.setIfInBounds_toArray, List.set_cons_zero, List.set_cons_succ]
    refine wpAnyH_take (i := 13) (oi := { dst := some 16, op := Op.move (Operand.tmp 15), type := 4, pos := "journal.go:26", after := #[{ on := 12, ground := Ground.data }, { on := 11, ground := Ground.chain }], guard := none }) (v := ?q512v) rfl (by kernel_rfl) (by kernel_rfl) (by kernel_rfl) (fun _ _ _ h => h) (Or.inl ⟨by rfl, ?q512h⟩) hHeld ?q512r
    case q512h => (intro wq hSw; clear hSw; go_simp; try with_reducible rfl)
    try simp only [Act.put, List.setIfInBounds_toArray, List.set_cons_zero, List.set_cons_succ]
    refine wpAnyH_take (i := 14) (oi := { dst := some 17, op := Op.fieldAddr 25 (Operand.tmp 1) 2, type := 0, pos := "journal.go:26", after := #[{ on := 13, ground := Ground.guard }], guard := some (13, true) }) (v := ?q513v) rfl (by kernel_rfl) (by kernel_rfl) (by kernel_rfl) (fun _ _ _ h => h) (Or.inl ⟨by rfl, ?q513h⟩) hHeld ?q513r
    case q513h => (intro wq hSw; clear hSw; go_simp; try with_reducible rfl)
    try simp only [Act.put, List.setIfInBounds_toArray, List.set_cons_zero, List.set_cons_succ]
    refine wpAnyH_take (i := 15) (oi := { dst := some 18, op := Op.load 3 (Operand.tmp 17), type := 3, pos := "journal.go:26", after := #[{ on := 14, ground := Ground.data }, { on := 13, ground := Ground.guard }], guard := some (13, true) }) (v := ?q514v) rfl (by kernel_rfl) (by kernel_rfl) (by kernel_rfl) (fun _ _ _ h => h) (Or.inl ⟨by rfl, ?q514h⟩) hHeld ?q514r
    case q514h => (intro wq hSw; have hq := hSw 2 _ rfl; simp only [Nat.zero_add] at hq; clear hSw; go_simp; try with_reducible rfl)
    try simp only [Act.put, List.setIfInBounds_toArray, List.set_cons_zero, List.set_cons_succ]
    refine wpAnyH_take (i := 16) (oi := { dst := some 19, op := Op.fieldAddr 25 (Operand.tmp 1) 0, type := 0, pos := "journal.go:26", after := #[{ on := 13, ground := Ground.guard }], guard := some (13, true) }) (v := ?q515v) rfl (by kernel_rfl) (by kernel_rfl) (by kernel_rfl) (fun _ _ _ h => h) (Or.inl ⟨by rfl, ?q515h⟩) hHeld ?q515r
    case q515h => (intro wq hSw; clear hSw; go_simp; try with_reducible rfl)
    try simp only [Act.put, List.setIfInBounds_toArray, List.set_cons_zero, List.set_cons_succ]
    refine wpAnyH_take (i := 17) (oi := { dst := some 20, op := Op.load 3 (Operand.tmp 19), type := 3, pos := "journal.go:26", after := #[{ on := 16, ground := Ground.data }, { on := 13, ground := Ground.guard }], guard := some (13, true) }) (v := ?q516v) rfl (by kernel_rfl) (by kernel_rfl) (by kernel_rfl) (fun _ _ _ h => h) (Or.inl ⟨by rfl, ?q516h⟩) hHeld ?q516r
    case q516h => (intro wq hSw; have hq := hSw 0 _ rfl; simp only [Nat.zero_add] at hq; clear hSw; go_simp; try with_reducible rfl)
    try simp only [Act.put, List.setIfInBounds_toArray, List.set_cons_zero, List.set_cons_succ]
    refine wpAnyH_take (i := 18) (oi := { dst := some 21, op := Op.binOp BinOp.sub 3 (Operand.tmp 20) (Operand.const (Value.int IntKind.i64 1)) 3, type := 3, pos := "journal.go:26", after := #[{ on := 17, ground := Ground.data }, { on := 13, ground := Ground.guard }], guard := some (13, true) }) (v := ?q517v) rfl (by kernel_rfl) (by kernel_rfl) (by kernel_rfl) (fun _ _ _ h => h) (Or.inl ⟨by rfl, ?q517h⟩) hHeld ?q517r
    case q517h => (intro wq hSw; clear hSw; go_simp; try with_reducible rfl)
    try simp only [Act.put, List.setIfInBounds_toArray, List.set_cons_zero, List.set_cons_succ]
    refine wpAnyH_take (i := 19) (oi := { dst := some 22, op := Op.binOp BinOp.geq 3 (Operand.tmp 18) (Operand.tmp 21) 3, type := 4, pos := "journal.go:26", after := #[{ on := 15, ground := Ground.data }, { on := 18, ground := Ground.data }, { on := 13, ground := Ground.guard }], guard := some (13, true) }) (v := .bool true) rfl (by kernel_rfl) (by kernel_rfl) (by kernel_rfl) (fun _ _ _ h => h) (Or.inl ⟨by rfl, ?q518h⟩) hHeld ?q518r
    case q518h => (intro wq hSw; clear hSw; go_simp; try with_reducible rfl)
    try simp only [Act.put, List.setIfInBounds_toArray, List.set_cons_zero, List.set_cons_succ]
    refine wpAnyH_take (i := 20) (oi := { dst := some 23, op := Op.pick (Operand.tmp 16) (Operand.tmp 22) (Operand.const (Value.bool false)), type := 4, pos := "journal.go:26", after := #[{ on := 13, ground := Ground.data }, { on := 19, ground := Ground.data }], guard := none }) (v := ?q519v) rfl (by kernel_rfl) (by kernel_rfl) (by kernel_rfl) (fun _ _ _ h => h) (Or.inl ⟨by rfl, ?q519h⟩) hHeld ?q519r
    case q519h => (intro wq hSw; clear hSw; go_simp; try with_reducible rfl)
    try simp only [Act.put, List.setIfInBounds_toArray, List.set_cons_zero, List.set_cons_succ]
    refine wpAnyH_take (i := 21) (oi := { dst := some 24, op := Op.move (Operand.tmp 23), type := 4, pos := "journal.go:26", after := #[{ on := 20, ground := Ground.data }, { on := 13, ground := Ground.chain }], guard := none }) (v := ?q520v) rfl (by kernel_rfl) (by kernel_rfl) (by kernel_rfl) (fun _ _ _ h => h) (Or.inl ⟨by rfl, ?q520h⟩) hHeld ?q520r
    case q520h => (intro wq hSw; clear hSw; go_simp; try with_reducible rfl)
    try simp only [Act.put, List.setIfInBounds_toArray, List.set_cons_zero, List.set_cons_succ]
    refine wpAnyH_take (i := 22) (oi := { dst := some 25, op := Op.fieldAddr 25 (Operand.tmp 1) 2, type := 0, pos := "journal.go:26", after := #[{ on := 21, ground := Ground.guard }], guard := some (21, true) }) (v := ?q521v) rfl (by kernel_rfl) (by kernel_rfl) (by kernel_rfl) (fun _ _ _ h => h) (Or.inl ⟨by rfl, ?q521h⟩) hHeld ?q521r
    case q521h => (intro wq hSw; clear hSw; go_simp; try with_reducible rfl)
    try simp only [Act.put, List.setIfInBounds_toArray, List.set_cons_zero, List.set_cons_succ]
    refine wpAnyH_take (i := 23) (oi := { dst := some 26, op := Op.load 3 (Operand.tmp 25), type := 3, pos := "journal.go:26", after := #[{ on := 22, ground := Ground.data }, { on := 21, ground := Ground.guard }], guard := some (21, true) }) (v := ?q522v) rfl (by kernel_rfl) (by kernel_rfl) (by kernel_rfl) (fun _ _ _ h => h) (Or.inl ⟨by rfl, ?q522h⟩) hHeld ?q522r
    case q522h => (intro wq hSw; have hq := hSw 2 _ rfl; simp only [Nat.zero_add] at hq; clear hSw; go_simp; try with_reducible rfl)
    try simp only [Act.put, List.setIfInBounds_toArray, List.set_cons_zero, List.set_cons_succ]
    refine wpAnyH_take (i := 24) (oi := { dst := some 27, op := Op.load 25 (Operand.tmp 1), type := 25, pos := "journal.go:26", after := #[{ on := 21, ground := Ground.guard }], guard := some (21, true) }) rfl (by kernel_rfl) (by kernel_rfl) (by kernel_rfl) (fun _ _ _ h => h) (yieldsIf_load_mid (by rfl) 25 (.tmp 1) rfl w.heap.size (0) rfl (lgCells (.slice a L.ents.length cap) L) _ (fun _ h => h) HUG.out rfl (info_lg)) hHeld ?_
    try simp only [Act.put, List.setIfInBounds_toArray, List.set_cons_zero, List.set_cons_succ]
    refine wpAnyH_ready (rs := [25]) (by kernel_rfl) (by simp) ?_
    refine AllReadyH.cons (o := { dst := some 28, op := Op.call { callee := Callee.value (Operand.func 12), args := #[Operand.tmp 27], argTypes := #[25] }, type := 3, pos := "journal.go:27", after := #[{ on := 24, ground := Ground.data }, { on := 21, ground := Ground.chain }, { on := 21, ground := Ground.guard }], guard := some (21, true) }) rfl (fun K hK => ?_) (AllReadyH.nil)
    go_simp
    go_wp2_with (go_at_call 12; refine (HEn2.out _).mono ?_; rintro e w24 ⟨rfl, hb⟩)
    have HS23 : Hid (Hp w [.ob (w.heap.size) 25 (lgCells (.slice a L.ents.length cap) L)] w24) := (HS22.out).calls hb
    refine hK.out _ _ (fun j v hv => by rw [Nat.zero_add]; exact HS23.out.at 0 rfl j hv) (fun hHeld => ?_)
    clear hK K hb
    try simp only [Act.put, List.setIfInBounds_toArray, List.set_cons_zero, List.set_cons_succ]
    refine wpAnyH_take (i := 26) (oi := { dst := some 29, op := Op.binOp BinOp.leq 3 (Operand.tmp 26) (Operand.tmp 28) 3, type := 4, pos := "journal.go:26", after := #[{ on := 23, ground := Ground.data }, { on := 25, ground := Ground.data }, { on := 21, ground := Ground.guard }], guard := some (21, true) }) (v := .bool false) rfl (by kernel_rfl) (by kernel_rfl) (by kernel_rfl) (fun _ _ _ h => h) (Or.inl ⟨by rfl, ?q524h⟩) hHeld ?q524r
    case q524h => (intro wq hSw; clear hSw; go_simp; try with_reducible rfl)
    try simp only [Act.put, List.setIfInBounds_toArray, List.set_cons_zero, List.set_cons_succ]
    refine wpAnyH_take (i := 27) (oi := { dst := some 30, op := Op.pick (Operand.tmp 24) (Operand.tmp 29) (Operand.const (Value.bool false)), type := 4, pos := "journal.go:26", after := #[{ on := 21, ground := Ground.data }, { on := 26, ground := Ground.data }], guard := none }) (v := ?q525v) rfl (by kernel_rfl) (by kernel_rfl) (by kernel_rfl) (fun _ _ _ h => h) (Or.inl ⟨by rfl, ?q525h⟩) hHeld ?q525r
    case q525h => (intro wq hSw; clear hSw; go_simp; try with_reducible rfl)
    try simp only [Act.put, List.setIfInBounds_toArray, List.set_cons_zero, List.set_cons_succ]
    refine wpAnyH_take (i := 28) (oi := { dst := some 2, op := Op.assign (Operand.tmp 30), type := 4, pos := "journal.go:26", after := #[{ on := 27, ground := Ground.data }, { on := 25, ground := Ground.chain }, { on := 0, ground := Ground.phase }, { on := 1, ground := Ground.phase }, { on := 2, ground := Ground.phase }, { on := 3, ground := Ground.phase }, { on := 4, ground := Ground.phase }, { on := 5, ground := Ground.phase }, { on := 6, ground := Ground.phase }, { on := 7, ground := Ground.phase }, { on := 8, ground := Ground.phase }, { on := 9, ground := Ground.phase }, { on := 10, ground := Ground.phase }, { on := 11, ground := Ground.phase }, { on := 12, ground := Ground.phase }, { on := 13, ground := Ground.phase }, { on := 14, ground := Ground.phase }, { on := 15, ground := Ground.phase }, { on := 16, ground := Ground.phase }, { on := 17, ground := Ground.phase }, { on := 18, ground := Ground.phase }, { on := 19, ground := Ground.phase }, { on := 20, ground := Ground.phase }, { on := 21, ground := Ground.phase }, { on := 22, ground := Ground.phase }, { on := 23, ground := Ground.phase }, { on := 24, ground := Ground.phase }, { on := 25, ground := Ground.phase }, { on := 26, ground := Ground.phase }, { on := 27, ground := Ground.phase }], guard := none }) (v := ?q526v) rfl (by kernel_rfl) (by kernel_rfl) (by kernel_rfl) (fun _ _ _ h => h) (Or.inl ⟨by rfl, ?q526h⟩) hHeld ?q526r
    case q526h => (intro wq hSw; clear hSw; go_simp; try with_reducible rfl)
    try simp only [Act.put, List.setIfInBounds_toArray, List.set_cons_zero, List.set_cons_succ]
    refine wpAnyH_done (by kernel_rfl) ?_ _
    go_wp2_with fail
    go_ret
    exact ⟨by rw [HX.out]; rfl, HS23.out.old⟩
  case pos =>
    have HX : Hid (lgOkB L = true) := by show _ = _; rw [HOk.out, decide_eq_true hl, decide_eq_true hd, decide_eq_true he]; first | rfl | simp
    refine wp_region_held_drew (S := fun w' => w'.rangeAt w.heap.size 0 (lgCells (.slice a L.ents.length cap) L)) (by kernel_rfl) (fun j v hv => by rw [Nat.zero_add]; exact (HS0.out.drew).at 0 rfl j hv) (fun hHeld => ?_)
    refine wpAnyH_take (i := 0) (oi := { dst := some 3, op := Op.fieldAddr 25 (Operand.tmp 1) 0, type := 0, pos := "journal.go:26", after := #[], guard := none }) (v := ?q601v) rfl (by kernel_rfl) (by kernel_rfl) (by kernel_rfl) (fun _ _ _ h => h) (Or.inl ⟨by rfl, ?q601h⟩) hHeld ?q601r
    case q601h => (intro wq hSw; clear hSw; go_simp; try with_reducible rfl)
    try simp only [Act.put, List.setIfInBounds_toArray, List.set_cons_zero, List.set_cons_succ]
    refine wpAnyH_take (i := 1) (oi := { dst := some 4, op := Op.load 3 (Operand.tmp 3), type := 3, pos := "journal.go:26", after := #[{ on := 0, ground := Ground.data }], guard := none }) (v := ?q602v) rfl (by kernel_rfl) (by kernel_rfl) (by kernel_rfl) (fun _ _ _ h => h) (Or.inl ⟨by rfl, ?q602h⟩) hHeld ?q602r
    case q602h => (intro wq hSw; have hq := hSw 0 _ rfl; simp only [Nat.zero_add] at hq; clear hSw; go_simp; try with_reducible rfl)
    try simp only [Act.put, List.setIfInBounds_toArray, List.set_cons_zero, List.set_cons_succ]
    refine wpAnyH_ready (rs := [2]) (by kernel_rfl) (by simp) ?_
    refine AllReadyH.cons (o := { dst := some 5, op := Op.call { callee := Callee.value (Operand.func 17), args := #[Operand.tmp 4], argTypes := #[3] }, type := 4, pos := "journal.go:26", after := #[{ on := 1, ground := Ground.data }], guard := none }) rfl (fun K hK => ?_) (AllReadyH.nil)
    go_simp
    go_wp2_with (go_at_call 17; refine (HVf.out _).mono ?_; rintro e w21 ⟨rfl, rfl⟩)
    have HS21 : Hid (Hp w [.ob (w.heap.size) 25 (lgCells (.slice a L.ents.length cap) L)] ((w.alloc (.cells (lgCells (.slice a L.ents.length cap) L).toArray 25)).drew)) := (HS0.out).drew
    refine hK.out _ _ (fun j v hv => by rw [Nat.zero_add]; exact HS21.out.at 0 rfl j hv) (fun hHeld => ?_)
    clear hK K
    generalize ((w.alloc (.cells (lgCells (.slice a L.ents.length cap) L).toArray 25)).drew) = w22 at *
    try simp only [Act.put, List.setIfInBounds_toArray, List.set_cons_zero, List.set_cons_succ]
    refine wpAnyH_take (i := 3) (oi := { dst := some 6, op := Op.move (Operand.tmp 5), type := 4, pos := "journal.go:26", after := #[{ on := 2, ground := Ground.data }, { on := 2, ground := Ground.chain }], guard := none }) (v := ?q603v) rfl (by kernel_rfl) (by kernel_rfl) (by kernel_rfl) (fun _ _ _ h => h) (Or.inl ⟨by rfl, ?q603h⟩) hHeld ?q603r
    case q603h => (intro wq hSw; clear hSw; go_simp; try with_reducible rfl)
    try simp only [Act.put, List.setIfInBounds_toArray, List.set_cons_zero, List.set_cons_succ]
    refine wpAnyH_take (i := 4) (oi := { dst := some 7, op := Op.fieldAddr 25 (Operand.tmp 1) 1, type := 0, pos := "journal.go:26", after := #[{ on := 3, ground := Ground.guard }], guard := some (3, true) }) (v := ?q604v) rfl (by kernel_rfl) (by kernel_rfl) (by kernel_rfl) (fun _ _ _ h => h) (Or.inl ⟨by rfl, ?q604h⟩) hHeld ?q604r
    case q604h => (intro wq hSw; clear hSw; go_simp; try with_reducible rfl)
    try simp only [Act.put, List.setIfInBounds_toArray, List.set_cons_zero, List.set_cons_succ]
    refine wpAnyH_take (i := 5) (oi := { dst := some 8, op := Op.load 23 (Operand.tmp 7), type := 23, pos := "journal.go:26", after := #[{ on := 4, ground := Ground.data }, { on := 3, ground := Ground.guard }], guard := some (3, true) }) (v := ?q605v) rfl (by kernel_rfl) (by kernel_rfl) (by kernel_rfl) (fun _ _ _ h => h) (Or.inl ⟨by rfl, ?q605h⟩) hHeld ?q605r
    case q605h => (intro wq hSw; have hq := hSw 1 _ rfl; simp only [Nat.zero_add] at hq; clear hSw; go_simp; try with_reducible rfl)
    try simp only [Act.put, List.setIfInBounds_toArray, List.set_cons_zero, List.set_cons_succ]
    refine wpAnyH_take (i := 6) (oi := { dst := some 9, op := Op.call { callee := Callee.builtin Builtin.len, args := #[Operand.tmp 8], argTypes := #[23] }, type := 3, pos := "journal.go:26", after := #[{ on := 5, ground := Ground.data }, { on := 3, ground := Ground.guard }], guard := some (3, true) }) (v := ?q606v) rfl (by kernel_rfl) (by kernel_rfl) (by kernel_rfl) (fun _ _ _ h => h) (Or.inl ⟨by rfl, ?q606h⟩) hHeld ?q606r
    case q606h => (intro wq hSw; clear hSw; go_simp; try with_reducible rfl)
    try simp only [Act.put, List.setIfInBounds_toArray, List.set_cons_zero, List.set_cons_succ]
    refine wpAnyH_take (i := 7) (oi := { dst := some 10, op := Op.binOp BinOp.leq 3 (Operand.tmp 9) (Operand.const (Value.int IntKind.i64 4096)) 3, type := 4, pos := "journal.go:26", after := #[{ on := 6, ground := Ground.data }, { on := 3, ground := Ground.guard }], guard := some (3, true) }) (v := .bool true) rfl (by kernel_rfl) (by kernel_rfl) (by kernel_rfl) (fun _ _ _ h => h) (Or.inl ⟨by rfl, ?q607h⟩) hHeld ?q607r
    case q607h => (intro wq hSw; clear hSw; go_simp; try with_reducible rfl)
    try simp only [Act.put, List.setIfInBounds_toArray, List.set_cons_zero, List.set_cons_succ]
    refine wpAnyH_take (i := 8) (oi := { dst := some 11, op := Op.pick (Operand.tmp 6) (Operand.tmp 10) (Operand.const (Value.bool false)), type := 4, pos := "journal.go:26", after := #[{ on := 3, ground := Ground.data }, { on := 7, ground := Ground.data }], guard := none }) (v := ?q608v) rfl (by kernel_rfl) (by kernel_rfl) (by kernel_rfl) (fun _ _ _ h => h) (Or.inl ⟨by rfl, ?q608h⟩) hHeld ?q608r
    case q608h => (intro wq hSw; clear hSw; go_simp; try with_reducible rfl)
    try simp only [Act.put, List.setIfInBounds_toArray, List.set_cons_zero, List.set_cons_succ]
    refine wpAnyH_take (i := 9) (oi := { dst := some 12, op := Op.move (Operand.tmp 11), type := 4, pos := "journal.go:26", after := #[{ on := 8, ground := Ground.data }, { on := 3, ground := Ground.chain }], guard := none }) (v := ?q609v) rfl (by kernel_rfl) (by kernel_rfl) (by kernel_rfl) (fun _ _ _ h => h) (Or.inl ⟨by rfl, ?q609h⟩) hHeld ?q609r
    case q609h => (intro wq hSw; clear hSw; go_simp; try with_reducible rfl)
    try simp only [Act.put, List.setIfInBounds_toArray, List.set_cons_zero, List.set_cons_succ]
    refine wpAnyH_take (i := 10) (oi := { dst := some 13, op := Op.load 25 (Operand.tmp 1), type := 25, pos := "journal.go:26", after := #[{ on := 9, ground := Ground.guard }], guard := some (9, true) }) rfl (by kernel_rfl) (by kernel_rfl) (by kernel_rfl) (fun _ _ _ h => h) (yieldsIf_load_mid (by rfl) 25 (.tmp 1) rfl w.heap.size (0) rfl (lgCells (.slice a L.ents.length cap) L) _ (fun _ h => h) HUG.out rfl (info_lg)) hHeld ?_
    try simp only [Act.put, List.setIfInBounds_toArray, List.set_cons_zero, List.set_cons_succ]
    refine wpAnyH_ready (rs := [11]) (by kernel_rfl) (by simp) ?_
    refine AllReadyH.cons (o := { dst := some 14, op := Op.call { callee := Callee.value (Operand.func 18), args := #[Operand.tmp 13], argTypes := #[25] }, type := 4, pos := "journal.go:26", after := #[{ on := 10, ground := Ground.data }, { on := 9, ground := Ground.chain }, { on := 9, ground := Ground.guard }], guard := some (9, true) }) rfl (fun K hK => ?_) (AllReadyH.nil)
    go_simp
    go_wp2_with (go_at_call 18; refine (HIo2.out _ (HS21.out).old).mono ?_; rintro e w23 ⟨rfl, hb⟩)
    have HS22 : Hid (Hp w [.ob (w.heap.size) 25 (lgCells (.slice a L.ents.length cap) L)] w23) := (HS21.out).calls hb
    refine hK.out _ _ (fun j v hv => by rw [Nat.zero_add]; exact HS22.out.at 0 rfl j hv) (fun hHeld => ?_)
    clear hK K hb
    try simp only [Act.put, List.setIfInBounds_toArray, List.set_cons_zero, List.set_cons_succ]
    refine wpAnyH_take (i := 12) (oi := { dst := some 15, op := Op.pick (Operand.tmp 12) (Operand.tmp 14) (Operand.const (Value.bool false)), type := 4, pos := "journal.go:26", after := #[{ on := 9, ground := Ground.data }, { on := 11, ground := Ground.data }], guard := none }) (v := ?q611v) rfl (by kernel_rfl) (by kernel_rfl) (by kernel_rfl) (fun _ _ _ h => h) (Or.inl ⟨by rfl, ?q611h⟩) hHeld ?q611r
    case q611h => (intro wq hSw; clear hSw; go_simp; try with_reducible rfl)
    try simp only [Act.put, List.setIfInBounds_toArray, List.set_cons_zero, List.set_cons_succ]
    refine wpAnyH_take (i := 13) (oi := { dst := some 16, op := Op.move (Operand.tmp 15), type := 4, pos := "journal.go:26", after := #[{ on := 12, ground := Ground.data }, { on := 11, ground := Ground.chain }], guard := none }) (v := ?q612v) rfl (by kernel_rfl) (by kernel_rfl) (by kernel_rfl) (fun _ _ _ h => h) (Or.inl ⟨by rfl, ?q612h⟩) hHeld ?q612r
    case q612h => (intro wq hSw; clear hSw; go_simp; try with_reducible rfl)
    try simp only [Act.put, List.setIfInBounds_toArray, List.set_cons_zero, List.set_cons_succ]
    refine wpAnyH_take (i := 14) (oi := { dst := some 17, op := Op.fieldAddr 25 (Operand.tmp 1) 2, type := 0, pos := "journal.go:26", after := #[{ on := 13, ground := Ground.guard }], guard := some (13, true) }) (v := ?q613v) rfl (by kernel_rfl) (by kernel_rfl) (by kernel_rfl) (fun _ _ _ h => h) (Or.inl ⟨by rfl, ?q613h⟩) hHeld ?q613r
    case q613h => (intro wq hSw; clear hSw; go_simp; try with_reducible rfl)
    try simp only [Act.put, List.setIfInBounds_toArray, List.set_cons_zero, List.set_cons_succ]
    refine wpAnyH_take (i := 15) (oi := { dst := some 18, op := Op.load 3 (Operand.tmp 17), type := 3, pos := "journal.go:26", after := #[{ on := 14, ground := Ground.data }, { on := 13, ground := Ground.guard }], guard := some (13, true) }) (v := ?q614v) rfl (by kernel_rfl) (by kernel_rfl) (by kernel_rfl) (fun _ _ _ h => h) (Or.inl ⟨by rfl, ?q614h⟩) hHeld ?q614r
    case q614h => (intro wq hSw; have hq := hSw 2 _ rfl; simp only [Nat.zero_add] at hq; clear hSw; go_simp; try with_reducible rfl)
    try simp only [Act.put, List.setIfInBounds_toArray, List.set_cons_zero, List.set_cons_succ]
    refine wpAnyH_take (i := 16) (oi := { dst := some 19, op := Op.fieldAddr 25 (Operand.tmp 1) 0, type := 0, pos := "journal.go:26", after := #[{ on := 13, ground := Ground.guard }], guard := some (13, true) }) (v := ?q615v) rfl (by kernel_rfl) (by kernel_rfl) (by kernel_rfl) (fun _ _ _ h => h) (Or.inl ⟨by rfl, ?q615h⟩) hHeld ?q615r
    case q615h => (intro wq hSw; clear hSw; go_simp; try with_reducible rfl)
    try simp only [Act.put, List.setIfInBounds_toArray, List.set_cons_zero, List.set_cons_succ]
    refine wpAnyH_take (i := 17) (oi := { dst := some 20, op := Op.load 3 (Operand.tmp 19), type := 3, pos := "journal.go:26", after := #[{ on := 16, ground := Ground.data }, { on := 13, ground := Ground.guard }], guard := some (13, true) }) (v := ?q616v) rfl (by kernel_rfl) (by kernel_rfl) (by kernel_rfl) (fun _ _ _ h => h) (Or.inl ⟨by rfl, ?q616h⟩) hHeld ?q616r
    case q616h => (intro wq hSw; have hq := hSw 0 _ rfl; simp only [Nat.zero_add] at hq; clear hSw; go_simp; try with_reducible rfl)
    try simp only [Act.put, List.setIfInBounds_toArray, List.set_cons_zero, List.set_cons_succ]
    refine wpAnyH_take (i := 18) (oi := { dst := some 21, op := Op.binOp BinOp.sub 3 (Operand.tmp 20) (Operand.const (Value.int IntKind.i64 1)) 3, type := 3, pos := "journal.go:26", after := #[{ on := 17, ground := Ground.data }, { on := 13, ground := Ground.guard }], guard := some (13, true) }) (v := ?q617v) rfl (by kernel_rfl) (by kernel_rfl) (by kernel_rfl) (fun _ _ _ h => h) (Or.inl ⟨by rfl, ?q617h⟩) hHeld ?q617r
    case q617h => (intro wq hSw; clear hSw; go_simp; try with_reducible rfl)
    try simp only [Act.put, List.setIfInBounds_toArray, List.set_cons_zero, List.set_cons_succ]
    refine wpAnyH_take (i := 19) (oi := { dst := some 22, op := Op.binOp BinOp.geq 3 (Operand.tmp 18) (Operand.tmp 21) 3, type := 4, pos := "journal.go:26", after := #[{ on := 15, ground := Ground.data }, { on := 18, ground := Ground.data }, { on := 13, ground := Ground.guard }], guard := some (13, true) }) (v := .bool true) rfl (by kernel_rfl) (by kernel_rfl) (by kernel_rfl) (fun _ _ _ h => h) (Or.inl ⟨by rfl, ?q618h⟩) hHeld ?q618r
    case q618h => (intro wq hSw; clear hSw; go_simp; try with_reducible rfl)
    try simp only [Act.put, List.setIfInBounds_toArray, List.set_cons_zero, List.set_cons_succ]
    refine wpAnyH_take (i := 20) (oi := { dst := some 23, op := Op.pick (Operand.tmp 16) (Operand.tmp 22) (Operand.const (Value.bool false)), type := 4, pos := "journal.go:26", after := #[{ on := 13, ground := Ground.data }, { on := 19, ground := Ground.data }], guard := none }) (v := ?q619v) rfl (by kernel_rfl) (by kernel_rfl) (by kernel_rfl) (fun _ _ _ h => h) (Or.inl ⟨by rfl, ?q619h⟩) hHeld ?q619r
    case q619h => (intro wq hSw; clear hSw; go_simp; try with_reducible rfl)
    try simp only [Act.put, List.setIfInBounds_toArray, List.set_cons_zero, List.set_cons_succ]
    refine wpAnyH_take (i := 21) (oi := { dst := some 24, op := Op.move (Operand.tmp 23), type := 4, pos := "journal.go:26", after := #[{ on := 20, ground := Ground.data }, { on := 13, ground := Ground.chain }], guard := none }) (v := ?q620v) rfl (by kernel_rfl) (by kernel_rfl) (by kernel_rfl) (fun _ _ _ h => h) (Or.inl ⟨by rfl, ?q620h⟩) hHeld ?q620r
    case q620h => (intro wq hSw; clear hSw; go_simp; try with_reducible rfl)
    try simp only [Act.put, List.setIfInBounds_toArray, List.set_cons_zero, List.set_cons_succ]
    refine wpAnyH_take (i := 22) (oi := { dst := some 25, op := Op.fieldAddr 25 (Operand.tmp 1) 2, type := 0, pos := "journal.go:26", after := #[{ on := 21, ground := Ground.guard }], guard := some (21, true) }) (v := ?q621v) rfl (by kernel_rfl) (by kernel_rfl) (by kernel_rfl) (fun _ _ _ h => h) (Or.inl ⟨by rfl, ?q621h⟩) hHeld ?q621r
    case q621h => (intro wq hSw; clear hSw; go_simp; try with_reducible rfl)
    try simp only [Act.put, List.setIfInBounds_toArray, List.set_cons_zero, List.set_cons_succ]
    refine wpAnyH_take (i := 23) (oi := { dst := some 26, op := Op.load 3 (Operand.tmp 25), type := 3, pos := "journal.go:26", after := #[{ on := 22, ground := Ground.data }, { on := 21, ground := Ground.guard }], guard := some (21, true) }) (v := ?q622v) rfl (by kernel_rfl) (by kernel_rfl) (by kernel_rfl) (fun _ _ _ h => h) (Or.inl ⟨by rfl, ?q622h⟩) hHeld ?q622r
    case q622h => (intro wq hSw; have hq := hSw 2 _ rfl; simp only [Nat.zero_add] at hq; clear hSw; go_simp; try with_reducible rfl)
    try simp only [Act.put, List.setIfInBounds_toArray, List.set_cons_zero, List.set_cons_succ]
    refine wpAnyH_take (i := 24) (oi := { dst := some 27, op := Op.load 25 (Operand.tmp 1), type := 25, pos := "journal.go:26", after := #[{ on := 21, ground := Ground.guard }], guard := some (21, true) }) rfl (by kernel_rfl) (by kernel_rfl) (by kernel_rfl) (fun _ _ _ h => h) (yieldsIf_load_mid (by rfl) 25 (.tmp 1) rfl w.heap.size (0) rfl (lgCells (.slice a L.ents.length cap) L) _ (fun _ h => h) HUG.out rfl (info_lg)) hHeld ?_
    try simp only [Act.put, List.setIfInBounds_toArray, List.set_cons_zero, List.set_cons_succ]
    refine wpAnyH_ready (rs := [25]) (by kernel_rfl) (by simp) ?_
    refine AllReadyH.cons (o := { dst := some 28, op := Op.call { callee := Callee.value (Operand.func 12), args := #[Operand.tmp 27], argTypes := #[25] }, type := 3, pos := "journal.go:27", after := #[{ on := 24, ground := Ground.data }, { on := 21, ground := Ground.chain }, { on := 21, ground := Ground.guard }], guard := some (21, true) }) rfl (fun K hK => ?_) (AllReadyH.nil)
    go_simp
    go_wp2_with (go_at_call 12; refine (HEn2.out _).mono ?_; rintro e w24 ⟨rfl, hb⟩)
    have HS23 : Hid (Hp w [.ob (w.heap.size) 25 (lgCells (.slice a L.ents.length cap) L)] w24) := (HS22.out).calls hb
    refine hK.out _ _ (fun j v hv => by rw [Nat.zero_add]; exact HS23.out.at 0 rfl j hv) (fun hHeld => ?_)
    clear hK K hb
    try simp only [Act.put, List.setIfInBounds_toArray, List.set_cons_zero, List.set_cons_succ]
    refine wpAnyH_take (i := 26) (oi := { dst := some 29, op := Op.binOp BinOp.leq 3 (Operand.tmp 26) (Operand.tmp 28) 3, type := 4, pos := "journal.go:26", after := #[{ on := 23, ground := Ground.data }, { on := 25, ground := Ground.data }, { on := 21, ground := Ground.guard }], guard := some (21, true) }) (v := .bool true) rfl (by kernel_rfl) (by kernel_rfl) (by kernel_rfl) (fun _ _ _ h => h) (Or.inl ⟨by rfl, ?q624h⟩) hHeld ?q624r
    case q624h => (intro wq hSw; clear hSw; go_simp; try with_reducible rfl)
    try simp only [Act.put, List.setIfInBounds_toArray, List.set_cons_zero, List.set_cons_succ]
    refine wpAnyH_take (i := 27) (oi := { dst := some 30, op := Op.pick (Operand.tmp 24) (Operand.tmp 29) (Operand.const (Value.bool false)), type := 4, pos := "journal.go:26", after := #[{ on := 21, ground := Ground.data }, { on := 26, ground := Ground.data }], guard := none }) (v := ?q625v) rfl (by kernel_rfl) (by kernel_rfl) (by kernel_rfl) (fun _ _ _ h => h) (Or.inl ⟨by rfl, ?q625h⟩) hHeld ?q625r
    case q625h => (intro wq hSw; clear hSw; go_simp; try with_reducible rfl)
    try simp only [Act.put, List.setIfInBounds_toArray, List.set_cons_zero, List.set_cons_succ]
    refine wpAnyH_take (i := 28) (oi := { dst := some 2, op := Op.assign (Operand.tmp 30), type := 4, pos := "journal.go:26", after := #[{ on := 27, ground := Ground.data }, { on := 25, ground := Ground.chain }, { on := 0, ground := Ground.phase }, { on := 1, ground := Ground.phase }, { on := 2, ground := Ground.phase }, { on := 3, ground := Ground.phase }, { on := 4, ground := Ground.phase }, { on := 5, ground := Ground.phase }, { on := 6, ground := Ground.phase }, { on := 7, ground := Ground.phase }, { on := 8, ground := Ground.phase }, { on := 9, ground := Ground.phase }, { on := 10, ground := Ground.phase }, { on := 11, ground := Ground.phase }, { on := 12, ground := Ground.phase }, { on := 13, ground := Ground.phase }, { on := 14, ground := Ground.phase }, { on := 15, ground := Ground.phase }, { on := 16, ground := Ground.phase }, { on := 17, ground := Ground.phase }, { on := 18, ground := Ground.phase }, { on := 19, ground := Ground.phase }, { on := 20, ground := Ground.phase }, { on := 21, ground := Ground.phase }, { on := 22, ground := Ground.phase }, { on := 23, ground := Ground.phase }, { on := 24, ground := Ground.phase }, { on := 25, ground := Ground.phase }, { on := 26, ground := Ground.phase }, { on := 27, ground := Ground.phase }], guard := none }) (v := ?q626v) rfl (by kernel_rfl) (by kernel_rfl) (by kernel_rfl) (fun _ _ _ h => h) (Or.inl ⟨by rfl, ?q626h⟩) hHeld ?q626r
    case q626h => (intro wq hSw; clear hSw; go_simp; try with_reducible rfl)
    try simp only [Act.put, List.setIfInBounds_toArray, List.set_cons_zero, List.set_cons_succ]
    refine wpAnyH_done (by kernel_rfl) ?_ _
    go_wp2_with fail
    go_ret
    exact ⟨by rw [HX.out]; rfl, HS23.out.old⟩
set_option maxHeartbeats 4000000 in
theorem last_lg {v : Value} {L : Lg} {R : List Rng} (w : World) (h : LgRd v L R) (hR : RdIn w R) (hg : GoodLg L) :
    Calls Tryd.prog 9 #[.agg (lgCells v L).toArray] w fun e w' => e = .returned (.int .i64 (lastR L)) ∧ Below w.heap.size w w' := by
  have HVa : Hid (∀ W, Below w.heap.size w W → Calls Tryd.prog 11 #[.agg (lgCells v L).toArray] W fun e w' => e = .returned (.bool (lgOkB L)) ∧ Below W.heap.size W w') := fun W hb => valid_lg W h (hR.below hb) hg
  have HEn : Hid (lgOkB L = true → ∀ W, Calls Tryd.prog 12 #[.agg (lgCells v L).toArray] W fun e w' => e = .returned (.int .i64 (endI L)) ∧ Below W.heap.size W w') := fun hk W => end_lg W h ⟨by have := (lg_in hk).first; omega, (lg_in hk).first.2⟩ (lg_in hk).few
  have HLa : Hid (lastR L = if lgOkB L = false then 0 else endI L) := rfl
  obtain ⟨a, cap, rfl, hnc, hcm, _⟩ := SlRd.open h hR
  obtain ⟨fsHUG, huHUG⟩ := under_lg
  have HUG := Lib.hid huHUG
  clear huHUG
  have h1 := (Hp.start w).put 25 (lgCells (.slice a L.ents.length cap) L)
  have HS0 : Hid (Hp w [.ob w.heap.size 25 (lgCells (.slice a L.ents.length cap) L)] (w.alloc (.cells (lgCells (.slice a L.ents.length cap) L).toArray 25))) := h1
  clear h1
  clear h hR hg hnc hcm
  generalize lgOkB L = q at *
  go_enter Tryd.func9, Tryd.ntmps9
  go_wp2_with (first | ((with_reducible refine wpList_load_ob 25 (.tmp 1) (w.heap.size) (lgCells (.slice a L.ents.length cap) L) 25 HUG.out ?_ ?_ ?_ ?_ ?_); (exact rfl); (exact (HS0.out).get 0 rfl); (exact rfl); (exact info_lg); simp only [Act.put, List.setIfInBounds_toArray, List.set_cons_zero, List.set_cons_succ]))
  refine (HVa.out _ (HS0.out).old).mono ?_
  rintro e w3 ⟨rfl, hb⟩
  have HS2 : Hid (Hp w [.ob (w.heap.size) 25 (lgCells (.slice a L.ents.length cap) L)] w3) := (HS0.out).calls hb
  clear hb
  clear HS0
  clear HVa
  cases q
  case false =>
    go_wp2_with fail
    go_ret
    exact ⟨by rw [HLa.out]; rfl, (HS2.out).old⟩
  case true =>
    have HE2 := Lib.hid (HEn.out rfl)
    clear HEn
    go_wp2_with (first | ((with_reducible refine wpList_load_ob 25 (.tmp 1) (w.heap.size) (lgCells (.slice a L.ents.length cap) L) 25 HUG.out ?_ ?_ ?_ ?_ ?_); (exact rfl); (exact (HS2.out).get 0 rfl); (exact rfl); (exact info_lg); simp only [Act.put, List.setIfInBounds_toArray, List.set_cons_zero, List.set_cons_succ]))
    refine (HE2.out _).mono ?_
    rintro e w4 ⟨rfl, hb⟩
    have HS3 : Hid (Hp w [.ob (w.heap.size) 25 (lgCells (.slice a L.ents.length cap) L)] w4) := (HS2.out).calls hb
    clear hb
    clear HS2
    go_wp2_with fail
    go_ret
    exact ⟨by rw [HLa.out]; rfl, (HS3.out).old⟩
end Go.Proofs.YtpmfdpkcnldpiaaDoor
/- the program's New, Append, Force and Cut of a log -/
namespace Go.Proofs.YtpmfdpkcnldpiaaDoor
open Go.RowKit
set_option maxRecDepth 20000
set_option linter.unusedSimpArgs false
set_option linter.unusedVariables false

theorem elem_en : ElemIs 31 13 128 := elem_of (z := .agg (enCells enNil).toArray) (by kernel_rfl) rfl (by decide) (by decide) (by decide)
def newLg : Lg := ⟨1, [], 0⟩
set_option maxHeartbeats 1000000 in
theorem new_lg (w : World) : Calls Tryd.prog 8 #[] w fun e w' => e = .returned (.agg (lgCells nilSl newLg).toArray) ∧ Below w.heap.size w w' := by
  have HB : Hid (∀ cs, Below w.heap.size w (w.alloc (.cells cs 25))) := fun cs => (Below.refl _ _).alloc (Nat.le_refl _) _
  obtain ⟨fsHUG, huHUG⟩ := under_lg
  have HUG := Lib.hid huHUG
  clear huHUG
  have HS0 := Lib.hid (Hp.start w)
  go_enter Tryd.func8, Tryd.ntmps8
  go_wp2_with (first | ((with_reducible refine wpList_alloc_ob 25 (lgCells nilSl lgNil) ?_ ?_); (exact alloc_lg); simp only [Act.put, List.setIfInBounds_toArray, List.set_cons_zero, List.set_cons_succ]) | ((with_reducible refine wpList_build_v (d := some 1) 25 (.agg (lgCells nilSl newLg).toArray) ?_ ?_); (intro W; simp only [List.map_toArray, List.map_cons, List.map_nil]; exact build_lg1 W); simp only [Act.put, List.setIfInBounds_toArray, List.set_cons_zero, List.set_cons_succ]) | ((with_reducible refine wpList_store_ob 25 (.tmp 0) (w.heap.size) (lgCells nilSl newLg) (lgCells nilSl lgNil) 25 ?_ ?_ ?_ ?_ ?_ ?_ ?_); (exact rfl); (exact rfl); (exact ((HS0.out).put 25 (lgCells nilSl lgNil)).get 0 rfl); (exact info_lg); (exact rfl); (exact (oneCell_lg _ _ _ _)); skip))
  have HS2 : Hid (Hp w [.ob (w.heap.size) 25 (lgCells nilSl newLg)] ((w.alloc (.cells (lgCells nilSl lgNil).toArray 25)).setRow (w.heap.size) (lgCells nilSl newLg).toArray)) := ((HS0.out).put 25 (lgCells nilSl lgNil)).row 0 rfl (lgCells nilSl newLg)
  clear HS0
  generalize ((w.alloc (.cells (lgCells nilSl lgNil).toArray 25)).setRow (w.heap.size) (lgCells nilSl newLg).toArray) = w2 at *
  refine bodyPost_ret (results_ob Tryd.results8 _ _ (w.heap.size) (lgCells nilSl newLg) 25 _ rfl ((HS2.out).get 0 rfl) HUG.out rfl info_lg) rfl ?_
  exact ⟨rfl, (HS2.out).old⟩
theorem lg_same {v : Value} {L : Lg} {R : List Rng} {w w' : World} {n d : Int} (h : LgRd v L R) (hR : RdIn w R) (hb : Below w.heap.size w w') : LgPost w R (⟨n, L.ents, d⟩, 0) (.returned (.tuple #[.agg (lgCells v ⟨n, L.ents, d⟩).toArray, .int .i64 0])) w' := ⟨v, R, rfl, h, hR.below hb, fun r hr => .inr (List.mem_map.2 ⟨r, hr, rfl⟩), hb⟩
theorem lgpost_as {w w' : World} {R : List Rng} {x y : Lg × Int} {e : Ending} (h : LgPost w R x e w') (hxy : x = y) : LgPost w R y e w' := hxy ▸ h
theorem lgpost_as3 {w w' : World} {R : List Rng} {x y : Lg × Int × Int} {e : Ending} (h : LgPost3 w R x e w') (hxy : x = y) : LgPost3 w R y e w' := hxy ▸ h
set_option maxHeartbeats 4000000 in
theorem force_lg {v : Value} {L : Lg} {R : List Rng} (n : Int) (w : World) (h : LgRd v L R) (hR : RdIn w R) (hg : GoodLg L) :
    Calls Tryd.prog 6 #[.agg (lgCells v L).toArray, .int .i64 n] w (LgPost w R (forceR L n)) := by
  have HFr : Hid (forceR L n = if lgOkB L = false then (lgNil, 26) else if endI L < n then (lgNil, 14) else (⟨L.first, L.ents, max L.dur n⟩, 0)) := rfl
  have HVa : Hid (∀ W, Below w.heap.size w W → Calls Tryd.prog 11 #[.agg (lgCells v L).toArray] W fun e w' => e = .returned (.bool (lgOkB L)) ∧ Below W.heap.size W w') := fun W hb => valid_lg W h (hR.below hb) hg
  have HEn : Hid (lgOkB L = true → ∀ W, Calls Tryd.prog 12 #[.agg (lgCells v L).toArray] W fun e w' => e = .returned (.int .i64 (endI L)) ∧ Below W.heap.size W w') := fun hk W => end_lg W h ⟨by have := (lg_in hk).first; omega, (lg_in hk).first.2⟩ (lg_in hk).few
  have HIn : Hid (lgOkB L = true → LgIn L) := fun h => lg_in h
  have HLr := Lib.hid h
  have HRr := Lib.hid hR
  obtain ⟨a, cap, rfl, hnc, hcm, _⟩ := SlRd.open h hR
  obtain ⟨fsHUG, huHUG⟩ := under_lg
  have HUG := Lib.hid huHUG
  clear huHUG
  have h1 := ((Hp.start w).put 25 (lgCells (.slice a L.ents.length cap) L)).put 25 (lgCells nilSl lgNil)
  simp only [World.size_alloc, List.nil_append, List.cons_append] at h1
  have HS0 : Hid (Hp w [.ob w.heap.size 25 (lgCells (.slice a L.ents.length cap) L), .ob (w.heap.size + 1) 25 (lgCells nilSl lgNil)] ((w.alloc (.cells (lgCells (.slice a L.ents.length cap) L).toArray 25)).alloc (.cells #[.int .i64 0, .slice none 0 0, .int .i64 0] 25))) := h1
  clear h1
  clear h hR hg
  generalize lgOkB L = q at *
  go_enter Tryd.func6, Tryd.ntmps6
  go_wp2_with (first | ((with_reducible refine wpList_load_ob 25 (.tmp 2) (w.heap.size) (lgCells (.slice a L.ents.length cap) L) 25 HUG.out ?_ ?_ ?_ ?_ ?_); (exact rfl); (exact (HS0.out).get 0 rfl); (exact rfl); (exact info_lg); simp only [Act.put, List.setIfInBounds_toArray, List.set_cons_zero, List.set_cons_succ]))
  refine (HVa.out _ (HS0.out).old).mono ?_
  rintro e w3 ⟨rfl, hb⟩
  have HS2 : Hid (Hp w [.ob (w.heap.size) 25 (lgCells (.slice a L.ents.length cap) L), .ob ((w.heap.size + 1)) 25 (lgCells nilSl lgNil)] w3) := (HS0.out).calls hb
  clear hb
  clear HS0
  generalize (w.heap.size + 1) = B1 at *
  clear HVa
  cases q
  case false =>
    go_wp2_with (first | ((with_reducible refine wpList_build_v (d := some 10) 25 (.agg (lgCells nilSl lgNil).toArray) ?_ ?_); (intro W; simp only [List.map_toArray, List.map_cons, List.map_nil]; exact build_lg0 W); simp only [Act.put, List.setIfInBounds_toArray, List.set_cons_zero, List.set_cons_succ]) | ((with_reducible refine wpList_store_ob 25 (.tmp 4) B1 (lgCells nilSl lgNil) (lgCells nilSl lgNil) 25 ?_ ?_ ?_ ?_ ?_ ?_ ?_); (exact rfl); (exact rfl); (exact (HS2.out).get 1 rfl); (exact info_lg); (exact rfl); (exact (oneCell_lg _ _ _ _)); skip))
    have HS3 : Hid (Hp w [.ob (w.heap.size) 25 (lgCells (.slice a L.ents.length cap) L), .ob B1 25 (lgCells nilSl lgNil)] (w3.setRow B1 (lgCells nilSl lgNil).toArray)) := (HS2.out).row 1 rfl (lgCells nilSl lgNil)
    clear HS2
    generalize (w3.setRow B1 (lgCells nilSl lgNil).toArray) = w4 at *
    refine bodyPost_ret (results_ob_tmp Tryd.results6 _ _ B1 (lgCells nilSl lgNil) 25 _ rfl ((HS3.out).get 1 rfl) HUG.out rfl info_lg) rfl ?_
    exact LgPost.none (by rw [HFr.out]; rfl) (HS3.out).old
  case true =>
    have HE2 := Lib.hid (HEn.out rfl)
    have HI := Lib.hid (HIn.out rfl)
    clear HEn HIn
    go_wp2_with (first | ((with_reducible refine wpList_load_ob 25 (.tmp 2) (w.heap.size) (lgCells (.slice a L.ents.length cap) L) 25 HUG.out ?_ ?_ ?_ ?_ ?_); (exact rfl); (exact (HS2.out).get 0 rfl); (exact rfl); (exact info_lg); simp only [Act.put, List.setIfInBounds_toArray, List.set_cons_zero, List.set_cons_succ]))
    refine (HE2.out _).mono ?_
    rintro e w4 ⟨rfl, hb⟩
    have HS3 : Hid (Hp w [.ob (w.heap.size) 25 (lgCells (.slice a L.ents.length cap) L), .ob B1 25 (lgCells nilSl lgNil)] w4) := (HS2.out).calls hb
    clear hb
    clear HS2
    by_cases hx : endI L < n
    case pos =>
      have HX := Lib.hid hx
      go_wp2_with (first | ((with_reducible refine wpList_build_v (d := some 16) 25 (.agg (lgCells nilSl lgNil).toArray) ?_ ?_); (intro W; simp only [List.map_toArray, List.map_cons, List.map_nil]; exact build_lg0 W); simp only [Act.put, List.setIfInBounds_toArray, List.set_cons_zero, List.set_cons_succ]) | ((with_reducible refine wpList_store_ob 25 (.tmp 4) B1 (lgCells nilSl lgNil) (lgCells nilSl lgNil) 25 ?_ ?_ ?_ ?_ ?_ ?_ ?_); (exact rfl); (exact rfl); (exact (HS3.out).get 1 rfl); (exact info_lg); (exact rfl); (exact (oneCell_lg _ _ _ _)); skip))
      have HS4 : Hid (Hp w [.ob (w.heap.size) 25 (lgCells (.slice a L.ents.length cap) L), .ob B1 25 (lgCells nilSl lgNil)] (w4.setRow B1 (lgCells nilSl lgNil).toArray)) := (HS3.out).row 1 rfl (lgCells nilSl lgNil)
      clear HS3
      generalize (w4.setRow B1 (lgCells nilSl lgNil).toArray) = w5 at *
      refine bodyPost_ret (results_ob_tmp Tryd.results6 _ _ B1 (lgCells nilSl lgNil) 25 _ rfl ((HS4.out).get 1 rfl) HUG.out rfl info_lg) rfl ?_
      exact LgPost.none (by rw [HFr.out, if_neg (by decide), if_pos (by have := HX.out; omega)]) (HS4.out).old
    case neg =>
      have HX := Lib.hid hx
      have b2 : w4.cell? ⟨w.heap.size, 2, none⟩ = some (.int .i64 L.dur) := (HS3.out).at 0 rfl 2 rfl
      have f2 : w4.frozen? ⟨w.heap.size, 2, none⟩ = false := (HS3.out).frozen 0 rfl 2
      by_cases hm : L.dur < n
      case pos =>
        have HM : Hid (max L.dur n = n) := Lib.hid (by omega)
        have hset := (HS3.out).set 0 rfl 2 (.int .i64 n)
        have HSet : Hid (Hp w [.ob w.heap.size 25 (lgCells (.slice a L.ents.length cap) ⟨L.first, L.ents, n⟩), .ob B1 25 (lgCells nilSl lgNil)] (w4.setCell ⟨w.heap.size, 2, none⟩ (.int .i64 n))) := hset
        clear hset
        go_wp2_with (first | ((with_reducible refine wpList_load_ob 25 (.tmp 2) (w.heap.size) (lgCells (.slice a L.ents.length cap) ⟨L.first, L.ents, n⟩) 25 HUG.out ?_ ?_ ?_ ?_ ?_); (exact rfl); (exact (HSet.out).get 0 rfl); (exact rfl); (exact info_lg); simp only [Act.put, List.setIfInBounds_toArray, List.set_cons_zero, List.set_cons_succ]) | ((with_reducible refine wpList_store_ob 25 (.tmp 4) B1 (lgCells (.slice a L.ents.length cap) ⟨L.first, L.ents, n⟩) (lgCells nilSl lgNil) 25 ?_ ?_ ?_ ?_ ?_ ?_ ?_); (exact rfl); (exact rfl); (exact (HSet.out).get 1 rfl); (exact info_lg); (exact rfl); (exact (oneCell_lg _ _ _ _)); skip))
        have HS4 : Hid (Hp w [.ob (w.heap.size) 25 (lgCells (.slice a L.ents.length cap) ⟨L.first, L.ents, n⟩), .ob B1 25 (lgCells (.slice a L.ents.length cap) ⟨L.first, L.ents, n⟩)] ((w4.setCell ⟨w.heap.size, 2, none⟩ (.int .i64 n)).setRow B1 (lgCells (.slice a L.ents.length cap) ⟨L.first, L.ents, n⟩).toArray)) := (HSet.out).row 1 rfl (lgCells (.slice a L.ents.length cap) ⟨L.first, L.ents, n⟩)
        clear HS3
        generalize ((w4.setCell ⟨w.heap.size, 2, none⟩ (.int .i64 n)).setRow B1 (lgCells (.slice a L.ents.length cap) ⟨L.first, L.ents, n⟩).toArray) = w5 at *
        refine bodyPost_ret (results_ob_tmp Tryd.results6 _ _ B1 (lgCells (.slice a L.ents.length cap) ⟨L.first, L.ents, n⟩) 25 _ rfl ((HS4.out).get 1 rfl) HUG.out rfl info_lg) rfl ?_
        exact lgpost_as (lg_same HLr.out HRr.out (HS4.out).old) (by rw [HFr.out, if_neg (by decide), if_neg (by have := HX.out; omega), HM.out])
      case neg =>
        have HM : Hid (max L.dur n = L.dur) := Lib.hid (by omega)
        have hset := (HS3.out).set 0 rfl 2 (.int .i64 L.dur)
        have HSet : Hid (Hp w [.ob w.heap.size 25 (lgCells (.slice a L.ents.length cap) ⟨L.first, L.ents, L.dur⟩), .ob B1 25 (lgCells nilSl lgNil)] (w4.setCell ⟨w.heap.size, 2, none⟩ (.int .i64 L.dur))) := hset
        clear hset
        go_wp2_with (first | ((with_reducible refine wpList_load_ob 25 (.tmp 2) (w.heap.size) (lgCells (.slice a L.ents.length cap) ⟨L.first, L.ents, L.dur⟩) 25 HUG.out ?_ ?_ ?_ ?_ ?_); (exact rfl); (exact (HSet.out).get 0 rfl); (exact rfl); (exact info_lg); simp only [Act.put, List.setIfInBounds_toArray, List.set_cons_zero, List.set_cons_succ]) | ((with_reducible refine wpList_store_ob 25 (.tmp 4) B1 (lgCells (.slice a L.ents.length cap) ⟨L.first, L.ents, L.dur⟩) (lgCells nilSl lgNil) 25 ?_ ?_ ?_ ?_ ?_ ?_ ?_); (exact rfl); (exact rfl); (exact (HSet.out).get 1 rfl); (exact info_lg); (exact rfl); (exact (oneCell_lg _ _ _ _)); skip))
        have HS4 : Hid (Hp w [.ob (w.heap.size) 25 (lgCells (.slice a L.ents.length cap) ⟨L.first, L.ents, L.dur⟩), .ob B1 25 (lgCells (.slice a L.ents.length cap) ⟨L.first, L.ents, L.dur⟩)] ((w4.setCell ⟨w.heap.size, 2, none⟩ (.int .i64 L.dur)).setRow B1 (lgCells (.slice a L.ents.length cap) ⟨L.first, L.ents, L.dur⟩).toArray)) := (HSet.out).row 1 rfl (lgCells (.slice a L.ents.length cap) ⟨L.first, L.ents, L.dur⟩)
        clear HS3
        generalize ((w4.setCell ⟨w.heap.size, 2, none⟩ (.int .i64 L.dur)).setRow B1 (lgCells (.slice a L.ents.length cap) ⟨L.first, L.ents, L.dur⟩).toArray) = w5 at *
        refine bodyPost_ret (results_ob_tmp Tryd.results6 _ _ B1 (lgCells (.slice a L.ents.length cap) ⟨L.first, L.ents, L.dur⟩) 25 _ rfl ((HS4.out).get 1 rfl) HUG.out rfl info_lg) rfl ?_
        exact lgpost_as (lg_same HLr.out HRr.out (HS4.out).old) (by rw [HFr.out, if_neg (by decide), if_neg (by have := HX.out; omega), HM.out])
theorem lg_drop {a : Option Addr} {cap : Nat} {L : Lg} {R : List Rng} {w : World} (h : LgRd (.slice a L.ents.length cap) L R) (hR : RdIn w R) (k : Nat) (hk : k ≤ L.ents.length) (f d : Int) :
    ∃ R', LgRd (.slice (if cap = k then a else Option.map (fun x => Addr.add x (k * 13)) a) (L.ents.length - k) (cap - k)) ⟨f, L.ents.drop k, d⟩ R' ∧ RdIn w R' ∧ ∀ r ∈ R', r.1 ∈ R.map (·.1) := by
  obtain ⟨a', cap', e, h2, h3, h4, h5, h6⟩ := h
  obtain ⟨rfl, rfl⟩ : a = a' ∧ cap = cap' := by simpa using e
  have hlen : (L.ents.drop k).length = L.ents.length - k := List.length_drop ..
  rcases Nat.eq_zero_or_pos (L.ents.length - k) with h0 | h0
  · refine ⟨[], ⟨_, _, by show Value.slice _ _ _ = Value.slice _ (L.ents.drop k).length _; rw [hlen], by show (entRow (L.ents.drop k)).length = (L.ents.drop k).length * 13; rw [entRow_length], by show (L.ents.drop k).length ≤ _; rw [hlen]; omega, by omega, fun h => ?_, fun h => ?_⟩, RdIn.nil w, fun r hr => by cases hr⟩
    · have h' : 0 < (L.ents.drop k).length := h
      rw [hlen] at h'; omega
    · by_cases hc : cap = k
      · omega
      · rw [if_neg hc] at h
        have : a = none := by simpa using h
        have := h6 this
        omega
  · obtain ⟨g, off, rfl, hm⟩ := h5 (by omega)
    have hc : ¬ cap = k := by omega
    rw [if_neg hc]
    refine ⟨[(g, off + k * 13, entRow (L.ents.drop k))], ⟨_, _, by show Value.slice _ _ _ = Value.slice _ (L.ents.drop k).length _; rw [hlen], by show (entRow (L.ents.drop k)).length = (L.ents.drop k).length * 13; rw [entRow_length], by show (L.ents.drop k).length ≤ _; rw [hlen]; omega, by omega, fun _ => ⟨g, off + k * 13, by rw [Option.map_some, Addr.add_mid], List.mem_singleton.2 rfl⟩, fun h => by simp at h⟩, fun r hr => ?_, fun r hr => ?_⟩
    · obtain rfl := List.mem_singleton.1 hr
      obtain ⟨h7, h8⟩ := hR _ hm
      refine ⟨h7, fun j u hu => ?_⟩
      rw [entRow_drop, List.getElem?_drop] at hu
      have := h8 (k * 13 + j) u hu
      rw [Nat.add_assoc]
      exact this
    · obtain rfl := List.mem_singleton.1 hr
      exact List.mem_map.2 ⟨_, hm, rfl⟩
set_option maxHeartbeats 8000000 in
theorem cut_lg {v : Value} {L : Lg} {R : List Rng} (n : Int) (w : World) (h : LgRd v L R) (hR : RdIn w R) (hg : GoodLg L) (hn : (Lit.int .i64 n).wf = true) :
    Calls Tryd.prog 7 #[.agg (lgCells v L).toArray, .int .i64 n] w (LgPost w R (cutR L n)) := by
  have HFr : Hid (cutR L n = if lgOkB L = false then (lgNil, 26) else if n < L.first ∨ endI L + 1 < n ∨ 1099511627776 < n then (lgNil, 1) else if L.dur < n - 1 then (lgNil, 15) else (⟨n, L.ents.drop (n - L.first).toNat, L.dur⟩, 0)) := rfl
  have HVa : Hid (∀ W, Below w.heap.size w W → Calls Tryd.prog 11 #[.agg (lgCells v L).toArray] W fun e w' => e = .returned (.bool (lgOkB L)) ∧ Below W.heap.size W w') := fun W hb => valid_lg W h (hR.below hb) hg
  have HEn : Hid (lgOkB L = true → ∀ W, Calls Tryd.prog 12 #[.agg (lgCells v L).toArray] W fun e w' => e = .returned (.int .i64 (endI L)) ∧ Below W.heap.size W w') := fun hk W => end_lg W h ⟨by have := (lg_in hk).first; omega, (lg_in hk).first.2⟩ (lg_in hk).few
  have HIn : Hid (lgOkB L = true → LgIn L) := fun h => lg_in h
  have HLr := Lib.hid h
  have HRr := Lib.hid hR
  obtain ⟨a, cap, rfl, hnc, hcm, _⟩ := SlRd.open h hR
  obtain ⟨fsHUG, huHUG⟩ := under_lg
  have HUG := Lib.hid huHUG
  clear huHUG
  have h1 := ((Hp.start w).put 25 (lgCells (.slice a L.ents.length cap) L)).put 25 (lgCells nilSl lgNil)
  simp only [World.size_alloc, List.nil_append, List.cons_append] at h1
  have HS0 : Hid (Hp w [.ob w.heap.size 25 (lgCells (.slice a L.ents.length cap) L), .ob (w.heap.size + 1) 25 (lgCells nilSl lgNil)] ((w.alloc (.cells (lgCells (.slice a L.ents.length cap) L).toArray 25)).alloc (.cells #[.int .i64 0, .slice none 0 0, .int .i64 0] 25))) := h1
  clear h1
  have HW := Lib.hid hn
  clear h hR hg hn
  generalize lgOkB L = q at *
  go_enter Tryd.func7, Tryd.ntmps7
  go_wp2_with (first | ((with_reducible refine wpList_load_ob 25 (.tmp 2) (w.heap.size) (lgCells (.slice a L.ents.length cap) L) 25 HUG.out ?_ ?_ ?_ ?_ ?_); (exact rfl); (exact (HS0.out).get 0 rfl); (exact rfl); (exact info_lg); simp only [Act.put, List.setIfInBounds_toArray, List.set_cons_zero, List.set_cons_succ]))
  refine (HVa.out _ (HS0.out).old).mono ?_
  rintro e w3 ⟨rfl, hb⟩
  have HS2 : Hid (Hp w [.ob (w.heap.size) 25 (lgCells (.slice a L.ents.length cap) L), .ob ((w.heap.size + 1)) 25 (lgCells nilSl lgNil)] w3) := (HS0.out).calls hb
  clear hb
  clear HS0
  generalize (w.heap.size + 1) = B1 at *
  clear HVa
  cases q
  case false =>
    go_wp2_with (first | ((with_reducible refine wpList_build_v (d := some 10) 25 (.agg (lgCells nilSl lgNil).toArray) ?_ ?_); (intro W; simp only [List.map_toArray, List.map_cons, List.map_nil]; exact build_lg0 W); simp only [Act.put, List.setIfInBounds_toArray, List.set_cons_zero, List.set_cons_succ]) | ((with_reducible refine wpList_store_ob 25 (.tmp 4) B1 (lgCells nilSl lgNil) (lgCells nilSl lgNil) 25 ?_ ?_ ?_ ?_ ?_ ?_ ?_); (exact rfl); (exact rfl); (exact (HS2.out).get 1 rfl); (exact info_lg); (exact rfl); (exact (oneCell_lg _ _ _ _)); skip))
    have HS3 : Hid (Hp w [.ob (w.heap.size) 25 (lgCells (.slice a L.ents.length cap) L), .ob B1 25 (lgCells nilSl lgNil)] (w3.setRow B1 (lgCells nilSl lgNil).toArray)) := (HS2.out).row 1 rfl (lgCells nilSl lgNil)
    clear HS2
    generalize (w3.setRow B1 (lgCells nilSl lgNil).toArray) = w4 at *
    refine bodyPost_ret (results_ob_tmp Tryd.results7 _ _ B1 (lgCells nilSl lgNil) 25 _ rfl ((HS3.out).get 1 rfl) HUG.out rfl info_lg) rfl ?_
    exact LgPost.none (by rw [HFr.out]; rfl) (HS3.out).old
  case true =>
    have HE2 := Lib.hid (HEn.out rfl)
    have HI := Lib.hid (HIn.out rfl)
    clear HEn HIn
    have he0 : endI L = L.first + (L.ents.length : Int) - 1 := rfl
    have HE0 := Lib.hid he0
    have hfirst := HI.out.first
    have hfew := HI.out.few
    have hwe : wrap64 (endI L + 1) = endI L + 1 := IntWalk.wrap64_in _ (by omega)
    clear he0
    obtain ⟨E, hE⟩ : ∃ E, endI L = E := ⟨_, rfl⟩
    simp only [hE] at HE2 HFr HE0 hwe
    clear hE
    have b0 : w3.cell? ⟨w.heap.size, 0, none⟩ = some (.int .i64 L.first) := (HS2.out).at 0 rfl 0 rfl
    by_cases h1 : n < L.first
    case pos =>
      have HX := Lib.hid h1
      have dh1 : decide (n < L.first) = true := decide_eq_true h1
      go_wp2_with (first | ((with_reducible refine wpList_build_v (d := some 27) 25 (.agg (lgCells nilSl lgNil).toArray) ?_ ?_); (intro W; simp only [List.map_toArray, List.map_cons, List.map_nil]; exact build_lg0 W); simp only [Act.put, List.setIfInBounds_toArray, List.set_cons_zero, List.set_cons_succ]) | ((with_reducible refine wpList_store_ob 25 (.tmp 4) B1 (lgCells nilSl lgNil) (lgCells nilSl lgNil) 25 ?_ ?_ ?_ ?_ ?_ ?_ ?_); (exact rfl); (exact rfl); (exact (HS2.out).get 1 rfl); (exact info_lg); (exact rfl); (exact (oneCell_lg _ _ _ _)); skip))
      have HS3 : Hid (Hp w [.ob (w.heap.size) 25 (lgCells (.slice a L.ents.length cap) L), .ob B1 25 (lgCells nilSl lgNil)] (w3.setRow B1 (lgCells nilSl lgNil).toArray)) := (HS2.out).row 1 rfl (lgCells nilSl lgNil)
      clear HS2
      generalize (w3.setRow B1 (lgCells nilSl lgNil).toArray) = w4 at *
      refine bodyPost_ret (results_ob_tmp Tryd.results7 _ _ B1 (lgCells nilSl lgNil) 25 _ rfl ((HS3.out).get 1 rfl) HUG.out rfl info_lg) rfl ?_
      exact LgPost.none (by rw [HFr.out, if_neg (by decide), if_pos (by have := HX.out; omega)]) (HS3.out).old
    case neg =>
      have HX1 : Hid (L.first ≤ n) := Lib.hid (by omega)
      have dh1 : decide (n < L.first) = false := decide_eq_false h1
      go_wp2_with (first | ((with_reducible refine wpList_load_ob_w 25 (.tmp 2) (w.heap.size) (lgCells (.slice a L.ents.length cap) L) 25 HUG.out ?_ ?_ ?_ ?_ ?_ ?_); (exact rfl); (exact rfl); (exact (HS2.out).get 0 rfl); (exact rfl); (exact info_lg); simp only [Act.put, List.setIfInBounds_toArray, List.set_cons_zero, List.set_cons_succ]))
      refine (HE2.out _).mono ?_
      rintro e w4 ⟨rfl, hb⟩
      have HS3 : Hid (Hp w [.ob (w.heap.size) 25 (lgCells (.slice a L.ents.length cap) L), .ob B1 25 (lgCells nilSl lgNil)] w4) := (HS2.out).calls hb
      clear hb
      clear HS2
      by_cases h2 : E + 1 < n
      case pos =>
        have HX := Lib.hid h2
        have dh2 : decide (E + 1 < n) = true := decide_eq_true h2
        go_wp2_with (first | ((with_reducible refine wpList_build_v (d := some 27) 25 (.agg (lgCells nilSl lgNil).toArray) ?_ ?_); (intro W; simp only [List.map_toArray, List.map_cons, List.map_nil]; exact build_lg0 W); simp only [Act.put, List.setIfInBounds_toArray, List.set_cons_zero, List.set_cons_succ]) | ((with_reducible refine wpList_store_ob 25 (.tmp 4) B1 (lgCells nilSl lgNil) (lgCells nilSl lgNil) 25 ?_ ?_ ?_ ?_ ?_ ?_ ?_); (exact rfl); (exact rfl); (exact (HS3.out).get 1 rfl); (exact info_lg); (exact rfl); (exact (oneCell_lg _ _ _ _)); skip))
        have HS4 : Hid (Hp w [.ob (w.heap.size) 25 (lgCells (.slice a L.ents.length cap) L), .ob B1 25 (lgCells nilSl lgNil)] (w4.setRow B1 (lgCells nilSl lgNil).toArray)) := (HS3.out).row 1 rfl (lgCells nilSl lgNil)
        clear HS3
        generalize (w4.setRow B1 (lgCells nilSl lgNil).toArray) = w5 at *
        refine bodyPost_ret (results_ob_tmp Tryd.results7 _ _ B1 (lgCells nilSl lgNil) 25 _ rfl ((HS4.out).get 1 rfl) HUG.out rfl info_lg) rfl ?_
        exact LgPost.none (by rw [HFr.out, if_neg (by decide), if_pos (by have := HX.out; omega)]) (HS4.out).old
      case neg =>
        have dh2 : decide (E + 1 < n) = false := decide_eq_false h2
        by_cases h3 : 1099511627776 < n
        case pos =>
          have HX := Lib.hid h3
          have dh3 : decide (1099511627776 < n) = true := decide_eq_true h3
          go_wp2_with (first | ((with_reducible refine wpList_build_v (d := some 27) 25 (.agg (lgCells nilSl lgNil).toArray) ?_ ?_); (intro W; simp only [List.map_toArray, List.map_cons, List.map_nil]; exact build_lg0 W); simp only [Act.put, List.setIfInBounds_toArray, List.set_cons_zero, List.set_cons_succ]) | ((with_reducible refine wpList_store_ob 25 (.tmp 4) B1 (lgCells nilSl lgNil) (lgCells nilSl lgNil) 25 ?_ ?_ ?_ ?_ ?_ ?_ ?_); (exact rfl); (exact rfl); (exact (HS3.out).get 1 rfl); (exact info_lg); (exact rfl); (exact (oneCell_lg _ _ _ _)); skip))
          have HS4 : Hid (Hp w [.ob (w.heap.size) 25 (lgCells (.slice a L.ents.length cap) L), .ob B1 25 (lgCells nilSl lgNil)] (w4.setRow B1 (lgCells nilSl lgNil).toArray)) := (HS3.out).row 1 rfl (lgCells nilSl lgNil)
          clear HS3
          generalize (w4.setRow B1 (lgCells nilSl lgNil).toArray) = w5 at *
          refine bodyPost_ret (results_ob_tmp Tryd.results7 _ _ B1 (lgCells nilSl lgNil) 25 _ rfl ((HS4.out).get 1 rfl) HUG.out rfl info_lg) rfl ?_
          exact LgPost.none (by rw [HFr.out, if_neg (by decide), if_pos (by have := HX.out; omega)]) (HS4.out).old
        case neg =>
          have HX2 : Hid (L.first ≤ n ∧ n ≤ E + 1 ∧ n ≤ 1099511627776) := Lib.hid (by have := HX1.out; omega)
          have dh3 : decide (1099511627776 < n) = false := decide_eq_false h3
          have hw1 : wrap64 (n - 1) = n - 1 := IntWalk.wrap64_in _ (by have := HX1.out; omega)
          have b2 : w4.cell? ⟨w.heap.size, 2, none⟩ = some (.int .i64 L.dur) := (HS3.out).at 0 rfl 2 rfl
          by_cases h4 : L.dur < n - 1
          case pos =>
            have HX := Lib.hid h4
            have dh4 : decide (L.dur < n - 1) = true := decide_eq_true h4
            go_wp2_with (first | ((with_reducible refine wpList_build_v (d := some 34) 25 (.agg (lgCells nilSl lgNil).toArray) ?_ ?_); (intro W; simp only [List.map_toArray, List.map_cons, List.map_nil]; exact build_lg0 W); simp only [Act.put, List.setIfInBounds_toArray, List.set_cons_zero, List.set_cons_succ]) | ((with_reducible refine wpList_store_ob 25 (.tmp 4) B1 (lgCells nilSl lgNil) (lgCells nilSl lgNil) 25 ?_ ?_ ?_ ?_ ?_ ?_ ?_); (exact rfl); (exact rfl); (exact (HS3.out).get 1 rfl); (exact info_lg); (exact rfl); (exact (oneCell_lg _ _ _ _)); skip))
            have HS4 : Hid (Hp w [.ob (w.heap.size) 25 (lgCells (.slice a L.ents.length cap) L), .ob B1 25 (lgCells nilSl lgNil)] (w4.setRow B1 (lgCells nilSl lgNil).toArray)) := (HS3.out).row 1 rfl (lgCells nilSl lgNil)
            clear HS3
            generalize (w4.setRow B1 (lgCells nilSl lgNil).toArray) = w5 at *
            refine bodyPost_ret (results_ob_tmp Tryd.results7 _ _ B1 (lgCells nilSl lgNil) 25 _ rfl ((HS4.out).get 1 rfl) HUG.out rfl info_lg) rfl ?_
            exact LgPost.none (by rw [HFr.out, if_neg (by decide), if_neg (by have := HX2.out; omega), if_pos (by have := HX.out; omega)]) (HS4.out).old
          case neg =>
            have HX4 : Hid (n - 1 ≤ L.dur) := Lib.hid (by omega)
            have dh4 : decide (L.dur < n - 1) = false := decide_eq_false h4
            have b0 : w4.cell? ⟨w.heap.size, 0, none⟩ = some (.int .i64 L.first) := (HS3.out).at 0 rfl 0 rfl
            have b1 : w4.cell? ⟨w.heap.size, 1, none⟩ = some (.slice a L.ents.length cap) := (HS3.out).at 0 rfl 1 rfl
            obtain ⟨k, hk⟩ : ∃ k : Nat, n = L.first + (k : Int) := ⟨(n - L.first).toNat, by have := HX1.out; omega⟩
            have hkl : k ≤ L.ents.length := by have := HX2.out; have := HE0.out; omega
            have hkw : wrap64 (n - L.first) = (k : Int) := by rw [show n - L.first = (k : Int) by omega]; exact IntWalk.wrap64_in _ (by omega)
            have HK : Hid (n = L.first + (k : Int) ∧ k ≤ L.ents.length) := ⟨hk, hkl⟩
            have hk0 : (0 : Int) ≤ (k : Int) := by omega
            have hki : (k : Int) ≤ (L.ents.length : Int) := by omega
            have hkc : (L.ents.length : Int) ≤ (cap : Int) := by omega
            have hkc2 : (k : Int) ≤ (cap : Int) := by omega
            have f1 : w4.frozen? ⟨w.heap.size, 1, none⟩ = false := (HS3.out).frozen 0 rfl 1
            have f0 : w4.frozen? ⟨w.heap.size, 0, none⟩ = false := (HS3.out).frozen 0 rfl 0
            clear h1 h2 h3 h4 hk hfew hfirst hkl
            go_upto_region 9 with (fail)
            obtain ⟨R2, hr2, hi2, hn2⟩ := lg_drop HLr.out HRr.out k HK.out.2 n L.dur
            have HR2 : Hid (∃ R', LgRd (.slice (if cap = k then a else Option.map (fun x => Addr.add x (k * 13)) a) (L.ents.length - k) (cap - k)) ⟨n, L.ents.drop k, L.dur⟩ R' ∧ RdIn w R' ∧ ∀ r ∈ R', r.1 ∈ R.map (·.1)) := ⟨R2, hr2, hi2, hn2⟩
            clear hr2 hi2 hn2
            generalize (if cap = k then a else Option.map (fun x => Addr.add x (k * 13)) a) = a2 at *
            have hset := ((HS3.out).set 0 rfl 1 (.slice a2 (L.ents.length - k) (cap - k))).set 0 rfl 0 (.int .i64 n)
            have HSet : Hid (Hp w [.ob w.heap.size 25 (lgCells (.slice a2 (L.ents.length - k) (cap - k)) ⟨n, L.ents.drop k, L.dur⟩), .ob B1 25 (lgCells nilSl lgNil)] ((w4.setCell ⟨w.heap.size, 1, none⟩ (.slice a2 (L.ents.length - k) (cap - k))).setCell ⟨w.heap.size, 0, none⟩ (.int .i64 n))) := hset
            clear hset
            go_wp2_with (first | ((with_reducible refine wpList_load_ob 25 (.tmp 2) (w.heap.size) (lgCells (.slice a2 (L.ents.length - k) (cap - k)) ⟨n, L.ents.drop k, L.dur⟩) 25 HUG.out ?_ ?_ ?_ ?_ ?_); (exact rfl); (exact (HSet.out).get 0 rfl); (exact rfl); (exact info_lg); simp only [Act.put, List.setIfInBounds_toArray, List.set_cons_zero, List.set_cons_succ]) | ((with_reducible refine wpList_store_ob 25 (.tmp 4) B1 (lgCells (.slice a2 (L.ents.length - k) (cap - k)) ⟨n, L.ents.drop k, L.dur⟩) (lgCells nilSl lgNil) 25 ?_ ?_ ?_ ?_ ?_ ?_ ?_); (exact rfl); (exact rfl); (exact (HSet.out).get 1 rfl); (exact info_lg); (exact rfl); (exact (oneCell_lg _ _ _ _)); skip))
            have HS4 : Hid (Hp w [.ob (w.heap.size) 25 (lgCells (.slice a2 (L.ents.length - k) (cap - k)) ⟨n, L.ents.drop k, L.dur⟩), .ob B1 25 (lgCells (.slice a2 (L.ents.length - k) (cap - k)) ⟨n, L.ents.drop k, L.dur⟩)] (((w4.setCell ⟨w.heap.size, 1, none⟩ (.slice a2 (L.ents.length - k) (cap - k))).setCell ⟨w.heap.size, 0, none⟩ (.int .i64 n)).setRow B1 (lgCells (.slice a2 (L.ents.length - k) (cap - k)) ⟨n, L.ents.drop k, L.dur⟩).toArray)) := (HSet.out).row 1 rfl (lgCells (.slice a2 (L.ents.length - k) (cap - k)) ⟨n, L.ents.drop k, L.dur⟩)
            clear HS3
            generalize (((w4.setCell ⟨w.heap.size, 1, none⟩ (.slice a2 (L.ents.length - k) (cap - k))).setCell ⟨w.heap.size, 0, none⟩ (.int .i64 n)).setRow B1 (lgCells (.slice a2 (L.ents.length - k) (cap - k)) ⟨n, L.ents.drop k, L.dur⟩).toArray) = w5 at *
            refine bodyPost_ret (results_ob_tmp Tryd.results7 _ _ B1 (lgCells (.slice a2 (L.ents.length - k) (cap - k)) ⟨n, L.ents.drop k, L.dur⟩) 25 _ rfl ((HS4.out).get 1 rfl) HUG.out rfl info_lg) rfl ?_
            obtain ⟨R2, hr2, hi2, hn2⟩ := HR2.out
            have hval : cutR L n = (⟨n, L.ents.drop k, L.dur⟩, 0) := by
              rw [HFr.out, if_neg (by decide), if_neg (by have := HX2.out; omega), if_neg (by have := HX4.out; omega), show (n - L.first).toNat = k by have := HK.out.1; omega]
            exact lgpost_as ⟨_, R2, rfl, hr2, hi2.below (HS4.out).old, fun r hr => .inr (hn2 r hr), (HS4.out).old⟩ hval.symm
end Go.Proofs.YtpmfdpkcnldpiaaDoor
/- what reads, its spare cut off, is appended to: the whole is new -/
namespace Go.Proofs.YtpmfdpkcnldpiaaDoor
open Go.RowKit
set_option maxRecDepth 20000

theorem Hp.appendNew {w W : World} {L : List Th} (h : Hp w L W) {v : Value} {e : TypeId} {z n : Nat} {xs : List Value} {R : List Rng} (hv : SlRd v z n xs R) (hR : RdIn W R) {a : Option Addr} {cap : Nat} (hva : v = .slice a n cap) (j : Nat) {b : Nat} {t' : TypeId} {ys : List Value} (ej : L[j]? = some (.ob b t' ys))
    (ts : TypeId) (ty : TypeId) {bytes : Nat} (ht : Tryd.prog.underlying ts = some (.slice e)) (he : ElemIs e z bytes) (m c : Nat) (hl : ys.length = m * z) (h1 : ∀ u ∈ ys, u.oneCell' = true) (hm : 0 < m) (hn : n + m ≤ 1048576) :
    ∃ v' W', (Builtin.append_ #[ts, ts] ty #[.slice a n n, .slice (some ⟨b, 0, none⟩) m c]).run Tryd.prog W = .ok v' W' ∧ Hp w (L ++ [.sl v' e z (n + m) (xs ++ ys)]) W' := by
  obtain ⟨inf, zv, hi, hz, hsize, hby, hzs⟩ := he.is
  have hroom := he.room
  obtain ⟨a', cap', e', hxl, hnc, hcm, hg, h0⟩ := hv
  obtain ⟨rfl, rfl⟩ : a = a' ∧ cap = cap' := by rw [hva] at e'; simpa using e'
  have hcell : ∀ q u, ys[q]? = some u → W.cell? ((⟨b, 0, none⟩ : Addr).add q) = some u := fun q u hu => by
    rw [Addr.add_mid, Nat.zero_add]
    exact h.at j ej q hu
  cases a with
  | none =>
    have hc := h0 rfl
    obtain rfl : n = 0 := by omega
    obtain rfl : xs = [] := List.eq_nil_of_length_eq_zero (by rw [hxl]; omega)
    have h2 := h.nil e z
    have hlen : (L ++ [Th.sl (.slice none 0 0) e z 0 []])[L.length]? = some (.sl (.slice none 0 0) e z 0 []) := by simp
    have hj : (L ++ [Th.sl (.slice none 0 0) e z 0 []])[j]? = some (.ob b t' ys) := by
      rw [List.getElem?_append_left (List.getElem?_eq_some_iff.1 ej).1]; exact ej
    obtain ⟨v', W', hr, hs, _⟩ := h2.append L.length hlen j hj ts ty ht he m c hl h1 hn
    refine ⟨v', W', hr, ?_⟩
    rw [List.set_append_right _ _ (Nat.le_refl _), Nat.sub_self, List.set_cons_zero] at hs
    exact hs
  | some ad =>
    have hold : ∀ q u, xs[q]? = some u → W.cell? (ad.add q) = some u := fun q u hu => by
      have hq := (List.getElem?_eq_some_iff.1 hu).1
      have hn0 : 0 < n := by
        rcases Nat.eq_zero_or_pos n with h | h
        · rw [h, Nat.zero_mul] at hxl; omega
        · exact h
      obtain ⟨g, off, ha, hmem⟩ := hg hn0
      obtain rfl := Option.some.inj ha
      rw [Addr.add_mid]
      exact (hR _ hmem).2 q u hu
    obtain ⟨v', W', hr, ho, hgr⟩ := run_append_arg_grows (P := Tryd.prog) W ts ty e inf zv z bytes ht hi hz hsize hby hzs he.pos ad n n xs hxl hold ⟨b, 0, none⟩ m c ys hl hcell (by omega) (by unfold maxLen; omega) (by
      have := Nat.mul_le_mul hn hroom
      omega)
    exact ⟨v', W', hr, h.addown ⟨hgr.os, hgr.tape, hgr.output, hgr.size, fun k hk => hgr.block k hk (by simp)⟩ ho⟩
theorem wp_append_new {o : Oper} {a : Act} {w W : World} {K : Act → World → Prop} {Q : Exit → Act → World → Prop} {L : List Th} (h : Hp w L W) (s x : Operand) (ts : TypeId) (ho : o.op = .call { callee := .builtin .append, args := #[s, x], argTypes := #[ts, ts] })
    {v : Value} {e : TypeId} {z n : Nat} {xs : List Value} {R : List Rng} (hv : SlRd v z n xs R) (hR : RdIn W R) {ad : Option Addr} {cap : Nat} (hva : v = .slice ad n cap) (j : Nat) {b : Nat} {t' : TypeId} {ys : List Value} (ej : L[j]? = some (.ob b t' ys)) {bytes : Nat} (ht : Tryd.prog.underlying ts = some (.slice e)) (he : ElemIs e z bytes) (m c : Nat)
    (hs : a.eval s = .slice ad n n) (hx : a.eval x = .slice (some ⟨b, 0, none⟩) m c) (hl : ys.length = m * z) (h1 : ∀ u ∈ ys, u.oneCell' = true) (hm : 0 < m) (hn : n + m ≤ 1048576)
    (hk : ∀ v' W', Hp w (L ++ [.sl v' e z (n + m) (xs ++ ys)]) W' → K (a.put o.dst v') W') : o.wp Tryd.prog a W K Q := by
  obtain ⟨v', W', hr, h2⟩ := h.appendNew hv hR hva j ej ts o.type ht he m c hl h1 hm hn
  unfold Oper.wp execOp
  simp only [ho, resolve, invoke, builtin, Sem.run_bind, Sem.run_pure, Result.andThen_ok, List.map_toArray, List.map_cons, List.map_nil, hs, hx, hr]
  exact hk v' W' h2
theorem results_cell_tmp2 {fn : Func} {p u u2 : Tmp} {ty : TypeId} (h : fn.results = #[.cell p ty, .tmp u, .tmp u2]) (tmps : Array Value) (P : Program) (w : World) :
    (results fn tmps).run P w =
      ((asAddr (tmps.getD p undef)).run P w).andThen fun a w₁ => ((loadVar ty a).run P w₁).andThen fun v w₂ => .ok (.tuple #[v, tmps.getD u undef, tmps.getD u2 undef]) w₂ := by
  simp only [results, h]
  simp [Sem.run_bind, Result.andThen]
theorem results_ob_tmp2 {fn : Func} {p u u2 : Tmp} {t : TypeId} (h : fn.results = #[.cell p t, .tmp u, .tmp u2]) (tmps : Array Value) (w : World) (g : Nat) (cs : List Value) (t0 : TypeId) (ds : TypeDesc)
    (hp : tmps.getD p undef = .pointer (some ⟨g, 0, none⟩)) (hg : w.heap[g]? = some (.cells cs.toArray t0 (0, 0))) (hu : Tryd.prog.underlying t = some ds) (hd : ds.isRow = true) (hi : (Tryd.prog.info? t).map (·.size) = some cs.length) :
    (results fn tmps).run Tryd.prog w = .ok (.tuple #[.agg cs.toArray, tmps.getD u undef, tmps.getD u2 undef]) w := by
  rw [results_cell_tmp2 h, hp]
  simp [asAddr, run_loadVar_row w g t0 t cs.toArray (0, 0) ds hg hu (by cases ds <;> simp_all) (by rw [List.size_toArray]; exact hi), Result.andThen]
end Go.Proofs.YtpmfdpkcnldpiaaDoor
/- the program's Append of a log -/
namespace Go.Proofs.YtpmfdpkcnldpiaaDoor
open Go.RowKit
set_option maxRecDepth 20000
set_option linter.unusedSimpArgs false
set_option linter.unusedVariables false

set_option maxHeartbeats 1000000 in
theorem clip_en (a : Option Addr) (n cap : Nat) (hn : n ≤ cap) (w : World) : Calls Tryd.prog 14 #[.slice a n cap] w fun e w' => e = .returned (.slice a n n) ∧ w = w' := by
  have h1 : (n : Int) ≤ (cap : Int) := by omega
  have h0 : (0 : Int) ≤ (n : Int) := by omega
  go_enter Tryd.func14, Tryd.ntmps14
  go_wp2
  go_ret
  exact ⟨rfl, rfl⟩
theorem all_one_en (e : Ent) : ∀ u ∈ ([enCells e] : List (List Value)).flatMap id, u.oneCell' = true := by
  intro u hu
  simp only [List.flatMap_cons, List.flatMap_nil, List.append_nil, id] at hu
  exact one_en e u hu
theorem stamp_good {e : Ent} {n : Int} (h : GoodEn e) (hn : (Lit.int .i64 n).wf = true) : GoodEn (stamp e n) := ⟨hn, h.kind, h.tx, h.ptx, h.ppg, h.ref, h.ch, h.blob⟩
set_option maxHeartbeats 8000000 in
theorem append_lg {v : Value} {L : Lg} {R : List Rng} (y : Ent) (w : World) (h : LgRd v L R) (hR : RdIn w R) (hg : GoodLg L) (hy : GoodEn y) :
    Calls Tryd.prog 5 #[.agg (lgCells v L).toArray, .agg (enCells y).toArray] w (LgPost3 w R (appendR L y)) := by
  have HFr : Hid (appendR L y = if lgOkB L = false then (lgNil, 0, 26) else if L.ents.length = 4096 ∨ 1099511627776 < endI L + 1 then (lgNil, 0, 21) else if entOkB (stamp y (endI L + 1)) = false then (lgNil, 0, 12) else (⟨L.first, L.ents ++ [stamp y (endI L + 1)], L.dur⟩, endI L + 1, 0)) := rfl
  have HGy := Lib.hid hy
  have HVa : Hid (∀ W, Below w.heap.size w W → Calls Tryd.prog 11 #[.agg (lgCells v L).toArray] W fun e w' => e = .returned (.bool (lgOkB L)) ∧ Below W.heap.size W w') := fun W hb => valid_lg W h (hR.below hb) hg
  have HEn : Hid (lgOkB L = true → ∀ W, Calls Tryd.prog 12 #[.agg (lgCells v L).toArray] W fun e w' => e = .returned (.int .i64 (endI L)) ∧ Below W.heap.size W w') := fun hk W => end_lg W h ⟨by have := (lg_in hk).first; omega, (lg_in hk).first.2⟩ (lg_in hk).few
  have HIn : Hid (lgOkB L = true → LgIn L) := fun h => lg_in h
  have HLr := Lib.hid h
  have HRr := Lib.hid hR
  obtain ⟨a, cap, rfl, hnc, hcm, _⟩ := SlRd.open h hR
  obtain ⟨fsHUG, huHUG⟩ := under_lg
  have HUG := Lib.hid huHUG
  clear huHUG
  obtain ⟨fsHUE, huHUE⟩ := under_en
  have HUE := Lib.hid huHUE
  clear huHUE
  have HUX : Hid (Tryd.prog.underlying 23 = some (.slice 31)) := Tryd.underlying23
  have h1 := (((Hp.start w).put 25 (lgCells (.slice a L.ents.length cap) L)).put 31 (enCells y)).put 25 (lgCells nilSl lgNil)
  simp only [World.size_alloc, List.nil_append, List.cons_append] at h1
  have HS0 : Hid (Hp w [.ob w.heap.size 25 (lgCells (.slice a L.ents.length cap) L), .ob (w.heap.size + 1) 31 (enCells y), .ob (w.heap.size + 1 + 1) 25 (lgCells nilSl lgNil)] (((w.alloc (.cells (lgCells (.slice a L.ents.length cap) L).toArray 25)).alloc (.cells (enCells y).toArray 31)).alloc (.cells #[.int .i64 0, .slice none 0 0, .int .i64 0] 25))) := h1
  clear h1 h hR hg hy
  generalize lgOkB L = q at *
  go_enter Tryd.func5, Tryd.ntmps5
  go_wp2_with (first | ((with_reducible refine wpList_load_ob 25 (.tmp 2) (w.heap.size) (lgCells (.slice a L.ents.length cap) L) 25 HUG.out ?_ ?_ ?_ ?_ ?_); (exact rfl); (exact (HS0.out).get 0 rfl); (exact rfl); (exact info_lg); simp only [Act.put, List.setIfInBounds_toArray, List.set_cons_zero, List.set_cons_succ]))
  refine (HVa.out _ (HS0.out).old).mono ?_
  rintro e w3 ⟨rfl, hb⟩
  have HS2 : Hid (Hp w [.ob (w.heap.size) 25 (lgCells (.slice a L.ents.length cap) L), .ob ((w.heap.size + 1)) 31 (enCells y), .ob ((w.heap.size + 1 + 1)) 25 (lgCells nilSl lgNil)] w3) := (HS0.out).calls hb
  clear hb
  clear HS0
  generalize (w.heap.size + 1 + 1) = B1 at *
  generalize (w.heap.size + 1) = B2 at *
  clear HVa
  cases q
  case false =>
    go_wp2_with (first | ((with_reducible refine wpList_build_v (d := some 10) 25 (.agg (lgCells nilSl lgNil).toArray) ?_ ?_); (intro W; simp only [List.map_toArray, List.map_cons, List.map_nil]; exact build_lg0 W); simp only [Act.put, List.setIfInBounds_toArray, List.set_cons_zero, List.set_cons_succ]) | ((with_reducible refine wpList_store_ob 25 (.tmp 4) B1 (lgCells nilSl lgNil) (lgCells nilSl lgNil) 25 ?_ ?_ ?_ ?_ ?_ ?_ ?_); (exact rfl); (exact rfl); (exact (HS2.out).get 2 rfl); (exact info_lg); (exact rfl); (exact (oneCell_lg _ _ _ _)); skip))
    have HS3 : Hid (Hp w [.ob (w.heap.size) 25 (lgCells (.slice a L.ents.length cap) L), .ob B2 31 (enCells y), .ob B1 25 (lgCells nilSl lgNil)] (w3.setRow B1 (lgCells nilSl lgNil).toArray)) := (HS2.out).row 2 rfl (lgCells nilSl lgNil)
    clear HS2
    generalize (w3.setRow B1 (lgCells nilSl lgNil).toArray) = w4 at *
    refine bodyPost_ret (results_ob_tmp2 Tryd.results5 _ _ B1 (lgCells nilSl lgNil) 25 _ rfl ((HS3.out).get 2 rfl) HUG.out rfl info_lg) rfl ?_
    exact LgPost3.none (by rw [HFr.out]; rfl) (HS3.out).old
  case true =>
    have HE2 := Lib.hid (HEn.out rfl)
    have HI := Lib.hid (HIn.out rfl)
    clear HEn HIn
    have he0 : endI L = L.first + (L.ents.length : Int) - 1 := rfl
    have HE0 := Lib.hid he0
    have hfirst := HI.out.first
    have hfew := HI.out.few
    have hwe : wrap64 (endI L + 1) = endI L + 1 := IntWalk.wrap64_in _ (by omega)
    have HWf : Hid ((Lit.int .i64 (endI L + 1)).wf = true) := Lib.hid (wf_of (by omega) (by omega))
    clear he0
    have HN1 : Hid (L.first ≤ endI L + 1 ∧ endI L + 1 ≤ 1099511627776 + 4096) := Lib.hid (by have := HE0.out; omega)
    obtain ⟨E, hE⟩ : ∃ E, endI L = E := ⟨_, rfl⟩
    simp only [hE] at HE2 HFr HE0 hwe HWf HN1
    clear hE
    go_wp2_with (first | ((with_reducible refine wpList_load_ob 25 (.tmp 2) (w.heap.size) (lgCells (.slice a L.ents.length cap) L) 25 HUG.out ?_ ?_ ?_ ?_ ?_); (exact rfl); (exact (HS2.out).get 0 rfl); (exact rfl); (exact info_lg); simp only [Act.put, List.setIfInBounds_toArray, List.set_cons_zero, List.set_cons_succ]))
    refine (HE2.out _).mono ?_
    rintro e w4 ⟨rfl, hb⟩
    have HS3 : Hid (Hp w [.ob (w.heap.size) 25 (lgCells (.slice a L.ents.length cap) L), .ob B2 31 (enCells y), .ob B1 25 (lgCells nilSl lgNil)] w4) := (HS2.out).calls hb
    clear hb
    clear HS2
    have f0 : w4.frozen? ⟨B2, 0, none⟩ = false := (HS3.out).frozen 1 rfl 0
    have b00 : w4.cell? ⟨B2, 0, none⟩ = some (.int .i64 y.lsn) := (HS3.out).at 1 rfl 0 rfl
    have hset := (HS3.out).set 1 rfl 0 (.int .i64 (E + 1))
    have HSet : Hid (Hp w [.ob (w.heap.size) 25 (lgCells (.slice a L.ents.length cap) L), .ob B2 31 (enCells ((stamp y (E + 1)))), .ob B1 25 (lgCells nilSl lgNil)] (w4.setCell ⟨B2, 0, none⟩ (.int .i64 (E + 1)))) := hset
    clear hset
    have c1 : (w4.setCell ⟨B2, 0, none⟩ (.int .i64 (E + 1))).cell? ⟨w.heap.size, 1, none⟩ = some (.slice a L.ents.length cap) := HSet.out.at 0 rfl 1 rfl
    have c0 : (w4.setCell ⟨B2, 0, none⟩ (.int .i64 (E + 1))).cell? ⟨B2, 0, none⟩ = some (.int .i64 (E + 1)) := HSet.out.at 1 rfl 0 rfl
    go_upto_block 0 with fail
    have HS4 : Hid (Hp w [.ob (w.heap.size) 25 (lgCells (.slice a L.ents.length cap) L), .ob B2 31 (enCells (stamp y (E + 1))), .ob B1 25 (lgCells nilSl lgNil)] (w4.setCell ⟨B2, 0, none⟩ (.int .i64 (E + 1)))) := HSet.out
    clear HS3
    generalize (w4.setCell ⟨B2, 0, none⟩ (.int .i64 (E + 1))) = w5 at *
    by_cases h1 : L.ents.length = 4096
    case pos =>
      have HX := Lib.hid h1
      have dh1 : ((L.ents.length : Int) == 4096) = true := by rw [h1]; rfl
      clear h1
      go_wp2_with (first | ((with_reducible refine wpList_build_v (d := some 25) 25 (.agg (lgCells nilSl lgNil).toArray) ?_ ?_); (intro W; simp only [List.map_toArray, List.map_cons, List.map_nil]; exact build_lg0 W); simp only [Act.put, List.setIfInBounds_toArray, List.set_cons_zero, List.set_cons_succ]) | ((with_reducible refine wpList_store_ob 25 (.tmp 4) B1 (lgCells nilSl lgNil) (lgCells nilSl lgNil) 25 ?_ ?_ ?_ ?_ ?_ ?_ ?_); (exact rfl); (exact rfl); (exact (HS4.out).get 2 rfl); (exact info_lg); (exact rfl); (exact (oneCell_lg _ _ _ _)); skip))
      have HS5 : Hid (Hp w [.ob (w.heap.size) 25 (lgCells (.slice a L.ents.length cap) L), .ob B2 31 (enCells (stamp y (E + 1))), .ob B1 25 (lgCells nilSl lgNil)] (w5.setRow B1 (lgCells nilSl lgNil).toArray)) := (HS4.out).row 2 rfl (lgCells nilSl lgNil)
      clear HS4
      generalize (w5.setRow B1 (lgCells nilSl lgNil).toArray) = w6 at *
      refine bodyPost_ret (results_ob_tmp2 Tryd.results5 _ _ B1 (lgCells nilSl lgNil) 25 _ rfl ((HS5.out).get 2 rfl) HUG.out rfl info_lg) rfl ?_
      exact LgPost3.none (by rw [HFr.out, if_neg (by decide), if_pos (.inl HX.out)]) (HS5.out).old
    case neg =>
      have HX1 := Lib.hid h1
      have dh1 : ((L.ents.length : Int) == 4096) = false := by rw [beq_eq_false_iff_ne]; omega
      clear h1
      by_cases h2 : 1099511627776 < E + 1
      case pos =>
        have HX := Lib.hid h2
        have dh2 : decide (1099511627776 < E + 1) = true := decide_eq_true h2
        go_wp2_with (first | ((with_reducible refine wpList_build_v (d := some 25) 25 (.agg (lgCells nilSl lgNil).toArray) ?_ ?_); (intro W; simp only [List.map_toArray, List.map_cons, List.map_nil]; exact build_lg0 W); simp only [Act.put, List.setIfInBounds_toArray, List.set_cons_zero, List.set_cons_succ]) | ((with_reducible refine wpList_store_ob 25 (.tmp 4) B1 (lgCells nilSl lgNil) (lgCells nilSl lgNil) 25 ?_ ?_ ?_ ?_ ?_ ?_ ?_); (exact rfl); (exact rfl); (exact (HS4.out).get 2 rfl); (exact info_lg); (exact rfl); (exact (oneCell_lg _ _ _ _)); skip))
        have HS5 : Hid (Hp w [.ob (w.heap.size) 25 (lgCells (.slice a L.ents.length cap) L), .ob B2 31 (enCells (stamp y (E + 1))), .ob B1 25 (lgCells nilSl lgNil)] (w5.setRow B1 (lgCells nilSl lgNil).toArray)) := (HS4.out).row 2 rfl (lgCells nilSl lgNil)
        clear HS4
        generalize (w5.setRow B1 (lgCells nilSl lgNil).toArray) = w6 at *
        refine bodyPost_ret (results_ob_tmp2 Tryd.results5 _ _ B1 (lgCells nilSl lgNil) 25 _ rfl ((HS5.out).get 2 rfl) HUG.out rfl info_lg) rfl ?_
        exact LgPost3.none (by rw [HFr.out, if_neg (by decide), if_pos (by have := HX.out; omega)]) (HS5.out).old
      case neg =>
        have HX2 : Hid (E + 1 ≤ 1099511627776) := Lib.hid (by omega)
        have dh2 : decide (1099511627776 < E + 1) = false := decide_eq_false h2
        clear h2
        obtain ⟨vb, hvb⟩ : ∃ b, entOkB ((stamp y (E + 1))) = b := ⟨_, rfl⟩
        have HVb := Lib.hid hvb
        have HVc : Hid (∀ W, Calls Tryd.prog 13 #[.agg (enCells ((stamp y (E + 1)))).toArray] W fun e w' => e = .returned (.bool vb) ∧ Below W.heap.size W w') := fun W => hvb ▸ valid_en ((stamp y (E + 1))) W (stamp_good HGy.out HWf.out)
        clear hvb
        go_wp2_with (first | ((with_reducible refine wpList_load_ob 31 (.tmp 3) B2 (enCells (stamp y (E + 1))) 31 HUE.out ?_ ?_ ?_ ?_ ?_); (exact rfl); (exact (HS4.out).get 1 rfl); (exact rfl); (exact info_en); simp only [Act.put, List.setIfInBounds_toArray, List.set_cons_zero, List.set_cons_succ]))
        refine (HVc.out _).mono ?_
        rintro e w6 ⟨rfl, hb⟩
        have HS5 : Hid (Hp w [.ob (w.heap.size) 25 (lgCells (.slice a L.ents.length cap) L), .ob B2 31 (enCells (stamp y (E + 1))), .ob B1 25 (lgCells nilSl lgNil)] w6) := (HS4.out).calls hb
        clear hb
        clear HS4
        cases vb
        case false =>
          go_wp2_with (first | ((with_reducible refine wpList_build_v (d := some 30) 25 (.agg (lgCells nilSl lgNil).toArray) ?_ ?_); (intro W; simp only [List.map_toArray, List.map_cons, List.map_nil]; exact build_lg0 W); simp only [Act.put, List.setIfInBounds_toArray, List.set_cons_zero, List.set_cons_succ]) | ((with_reducible refine wpList_store_ob 25 (.tmp 4) B1 (lgCells nilSl lgNil) (lgCells nilSl lgNil) 25 ?_ ?_ ?_ ?_ ?_ ?_ ?_); (exact rfl); (exact rfl); (exact (HS5.out).get 2 rfl); (exact info_lg); (exact rfl); (exact (oneCell_lg _ _ _ _)); skip))
          have HS6 : Hid (Hp w [.ob (w.heap.size) 25 (lgCells (.slice a L.ents.length cap) L), .ob B2 31 (enCells (stamp y (E + 1))), .ob B1 25 (lgCells nilSl lgNil)] (w6.setRow B1 (lgCells nilSl lgNil).toArray)) := (HS5.out).row 2 rfl (lgCells nilSl lgNil)
          clear HS5
          generalize (w6.setRow B1 (lgCells nilSl lgNil).toArray) = w7 at *
          refine bodyPost_ret (results_ob_tmp2 Tryd.results5 _ _ B1 (lgCells nilSl lgNil) 25 _ rfl ((HS6.out).get 2 rfl) HUG.out rfl info_lg) rfl ?_
          exact LgPost3.none (by rw [HFr.out, if_neg (by decide), if_neg (by have := HX1.out; have := HX2.out; omega), if_pos HVb.out]) (HS6.out).old
        case true =>
          go_upto_region 8 with (fail)
          have HS6 : Hid (Hp w [.ob (w.heap.size) 25 (lgCells (.slice a L.ents.length cap) L), .ob B2 31 (enCells (stamp y (E + 1))), .ob B1 25 (lgCells nilSl lgNil)] w6) := HS5.out
          clear HS5
          have HCp : Hid (L.ents.length ≤ cap) := hnc
          clear hnc hcm
          refine wp_region_held_drew (S := fun w' => (∃ v, w'.cell? ⟨w.heap.size, 1, none⟩ = some v) ∧ Hold w.heap.size [.ob B2 31 (enCells ((stamp y (E + 1))))] w') (by kernel_rfl) (⟨⟨_, (HS6.out).drew.at 0 rfl 1 rfl⟩, (HS6.out).drew.pick [1] rfl⟩) (fun hHeld => ?_)
          refine wpAnyH_take (i := 0) (oi := { dst := some 31, op := Op.fieldAddr 25 (Operand.tmp 2) 1, type := 0, pos := "journal.go:64", after := #[], guard := none }) (v := ?q1v) rfl (by kernel_rfl) (by kernel_rfl) (by kernel_rfl) (fun _ _ _ h => h) (Or.inl ⟨by rfl, ?q1h⟩) hHeld ?q1r
          case q1h => (intro wq hSw; clear hSw; go_simp; try with_reducible rfl)
          try simp only [Act.put, List.setIfInBounds_toArray, List.set_cons_zero, List.set_cons_succ]
          refine wpAnyH_take (i := 3) (oi := { dst := some 34, op := Op.load 31 (Operand.tmp 3), type := 31, pos := "journal.go:64", after := #[], guard := none }) rfl (by kernel_rfl) (by kernel_rfl) (by kernel_rfl) (fun _ _ _ h => h) (yieldsIf_load_mid (by rfl) 31 (.tmp 3) rfl B2 (0) rfl (enCells (stamp y (E + 1))) _ (fun _ h => h.2.whole 0 rfl) HUE.out rfl (info_en)) hHeld ?_
          try simp only [Act.put, List.setIfInBounds_toArray, List.set_cons_zero, List.set_cons_succ]
          refine wpAnyH_ready (rs := [1, 4]) (by kernel_rfl) (by simp) ?_
          refine AllReadyH.cons (o := { dst := some 32, op := Op.load 23 (Operand.tmp 31), type := 23, pos := "journal.go:64", after := #[{ on := 0, ground := Ground.data }], guard := none }) rfl (fun K hK => ?_) (AllReadyH.cons (o := { dst := some 35, op := Op.buildSlice 23 1 #[(0, Operand.tmp 34)], type := 23, pos := "journal.go:64", after := #[{ on := 3, ground := Ground.data }], guard := none }) rfl (fun K hK => ?_) (AllReadyH.nil))
          · have q41 := ((HS6.out).drew).at 0 rfl 1 rfl
            go_simp
            clear q41
            have HS7 : Hid (Hp w [.ob (w.heap.size) 25 (lgCells (.slice a L.ents.length cap) L), .ob B2 31 (enCells (stamp y (E + 1))), .ob B1 25 (lgCells nilSl lgNil)] (w6.drew)) := (HS6.out).drew
            refine hK.out _ _ (⟨⟨_, HS7.out.at 0 rfl 1 rfl⟩, HS7.out.pick [1] rfl⟩) (fun hHeld => ?_)
            clear hK K
            generalize w6.drew = w7 at *
            try simp only [Act.put, List.setIfInBounds_toArray, List.set_cons_zero, List.set_cons_succ]
            refine wpAnyH_ready (rs := [2, 4]) (by kernel_rfl) (by simp) ?_
            refine AllReadyH.cons (o := { dst := some 33, op := Op.call { callee := Callee.value (Operand.func 14), args := #[Operand.tmp 32], argTypes := #[23] }, type := 23, pos := "journal.go:64", after := #[{ on := 1, ground := Ground.data }], guard := none }) rfl (fun K hK => ?_) (AllReadyH.cons (o := { dst := some 35, op := Op.buildSlice 23 1 #[(0, Operand.tmp 34)], type := 23, pos := "journal.go:64", after := #[{ on := 3, ground := Ground.data }], guard := none }) rfl (fun K hK => ?_) (AllReadyH.nil))
            · go_simp
              go_wp2_with (go_at_call 14; refine (clip_en a L.ents.length cap HCp.out _).mono ?_; rintro e w8 ⟨rfl, rfl⟩)
              have HS8 : Hid (Hp w [.ob (w.heap.size) 25 (lgCells (.slice a L.ents.length cap) L), .ob B2 31 (enCells (stamp y (E + 1))), .ob B1 25 (lgCells nilSl lgNil)] w7) := HS7.out
              refine hK.out _ _ (⟨⟨_, HS8.out.at 0 rfl 1 rfl⟩, HS8.out.pick [1] rfl⟩) (fun hHeld => ?_)
              clear hK K
              try simp only [Act.put, List.setIfInBounds_toArray, List.set_cons_zero, List.set_cons_succ]
              refine wpAnyH_ready (rs := [4]) (by kernel_rfl) (by simp) ?_
              refine AllReadyH.cons (o := { dst := some 35, op := Op.buildSlice 23 1 #[(0, Operand.tmp 34)], type := 23, pos := "journal.go:64", after := #[{ on := 3, ground := Ground.data }], guard := none }) rfl (fun K hK => ?_) (AllReadyH.nil)
              rw [if_pos (by rfl)]
              refine wp_build_obs rfl elem_en HUX.out [enCells (stamp y (E + 1))] (List.forall_mem_cons.2 ⟨rfl, (fun _ h => absurd h List.not_mem_nil)⟩) (Nat.succ_pos _) (by simp only [List.length_cons, List.length_nil]; omega) rfl (by simp only [List.map_toArray, List.map_cons, List.map_nil, List.zipIdx_cons, List.zipIdx_nil]; exact rfl) ?_
              have HS9 : Hid (Hp w [.ob (w.heap.size) 25 (lgCells (.slice a L.ents.length cap) L), .ob B2 31 (enCells (stamp y (E + 1))), .ob B1 25 (lgCells nilSl lgNil), .ob (w7.heap.size) 31 (([enCells (stamp y (E + 1))] : List (List Value)).flatMap id)] (w7.alloc (.cells (([enCells (stamp y (E + 1))] : List (List Value)).flatMap id).toArray 31))) := (HS8.out).put 31 (([enCells (stamp y (E + 1))] : List (List Value)).flatMap id)
              refine hK.out _ _ (⟨⟨_, HS9.out.at 0 rfl 1 rfl⟩, HS9.out.pick [1] rfl⟩) (fun hHeld => ?_)
              clear hK K
              generalize (w7.alloc (.cells (([enCells (stamp y (E + 1))] : List (List Value)).flatMap id).toArray 31)) = w9 at *
              generalize w7.heap.size = B3 at *
              try simp only [Act.put, List.setIfInBounds_toArray, List.set_cons_zero, List.set_cons_succ]
              refine wpAnyH_ready (rs := [5]) (by kernel_rfl) (by simp) ?_
              refine AllReadyH.cons (o := { dst := some 36, op := Op.call { callee := Callee.builtin Builtin.append, args := #[Operand.tmp 33, Operand.tmp 35], argTypes := #[23, 23] }, type := 23, pos := "journal.go:64", after := #[{ on := 2, ground := Ground.data }, { on := 4, ground := Ground.data }, { on := 2, ground := Ground.chain }], guard := none }) rfl (fun K hK => ?_) (AllReadyH.nil)
              rw [if_pos (by rfl)]
              refine wp_append_new (HS9.out) (.tmp 33) (.tmp 35) 23 rfl HLr.out (HRr.out.below (HS9.out).old) rfl 3 rfl HUX.out elem_en 1 1 rfl rfl rfl (all_one_en _) (by decide) (by have := HI.out.few; omega) ?_
              intro v10 w10 hs
              have HS11 : Hid (Hp w [.ob (w.heap.size) 25 (lgCells (.slice a L.ents.length cap) L), .ob B2 31 (enCells (stamp y (E + 1))), .ob B1 25 (lgCells nilSl lgNil), .ob B3 31 (([enCells (stamp y (E + 1))] : List (List Value)).flatMap id), .sl v10 31 13 (L.ents.length + 1) (entRow L.ents ++ (([enCells (stamp y (E + 1))] : List (List Value)).flatMap id))] w10) := hs
              refine hK.out _ _ (⟨⟨_, HS11.out.at 0 rfl 1 rfl⟩, HS11.out.pick [1] rfl⟩) (fun hHeld => ?_)
              clear hK K hs
              try simp only [Act.put, List.setIfInBounds_toArray, List.set_cons_zero, List.set_cons_succ]
              refine wpAnyH_take (i := 6) (oi := { dst := some 37, op := Op.fieldAddr 25 (Operand.tmp 2) 1, type := 0, pos := "journal.go:64", after := #[{ on := 0, ground := Ground.phase }, { on := 1, ground := Ground.phase }, { on := 2, ground := Ground.phase }, { on := 3, ground := Ground.phase }, { on := 4, ground := Ground.phase }, { on := 5, ground := Ground.phase }], guard := none }) (v := ?q3v) rfl (by kernel_rfl) (by kernel_rfl) (by kernel_rfl) (fun _ _ _ h => h) (Or.inl ⟨by rfl, ?q3h⟩) hHeld ?q3r
              case q3h => (intro wq hSw; clear hSw; go_simp; try with_reducible rfl)
              try simp only [Act.put, List.setIfInBounds_toArray, List.set_cons_zero, List.set_cons_succ]
              refine wpAnyH_ready (rs := [7]) (by kernel_rfl) (by simp) ?_
              refine AllReadyH.cons (o := { dst := none, op := Op.store 23 (Operand.tmp 37) (Operand.tmp 36), type := 0, pos := "journal.go:64", after := #[{ on := 6, ground := Ground.data }, { on := 5, ground := Ground.data }, { on := 5, ground := Ground.chain }, { on := 0, ground := Ground.phase }, { on := 1, ground := Ground.phase }, { on := 2, ground := Ground.phase }, { on := 3, ground := Ground.phase }, { on := 4, ground := Ground.phase }, { on := 5, ground := Ground.phase }], guard := none }) rfl (fun K hK => ?_) (AllReadyH.nil)
              obtain ⟨a3, c3, rfl⟩ := own_slice ((HS11.out).own 4 rfl)
              have f52 := (HS11.out).frozen 0 rfl 1
              have q52 := (HS11.out).at 0 rfl 1 rfl
              go_simp
              clear q52 f52
              have HS12 : Hid (Hp w [.ob (w.heap.size) 25 (lgCells (.slice a3 (L.ents.length + 1) c3) ⟨L.first, L.ents ++ [(stamp y (E + 1))], L.dur⟩), .ob B2 31 (enCells (stamp y (E + 1))), .ob B1 25 (lgCells nilSl lgNil), .ob B3 31 (([enCells (stamp y (E + 1))] : List (List Value)).flatMap id), .sl ((.slice a3 (L.ents.length + 1) c3)) 31 13 (L.ents.length + 1) (entRow L.ents ++ (([enCells (stamp y (E + 1))] : List (List Value)).flatMap id))] (w10.setCell ⟨w.heap.size, 1, none⟩ (.slice a3 (L.ents.length + 1) c3))) := (HS11.out).set 0 rfl 1 (.slice a3 (L.ents.length + 1) c3)
              refine hK.out _ _ (⟨⟨_, HS12.out.at 0 rfl 1 rfl⟩, HS12.out.pick [1] rfl⟩) (fun hHeld => ?_)
              clear hK K
              generalize (w10.setCell ⟨w.heap.size, 1, none⟩ (.slice a3 (L.ents.length + 1) c3)) = w11 at *
              try simp only [Act.put, List.setIfInBounds_toArray, List.set_cons_zero, List.set_cons_succ]
              refine wpAnyH_done (by kernel_rfl) ?_ _
              clear hHeld
              have HS13 : Hid (Hp w [.ob (w.heap.size) 25 (lgCells (.slice a3 (L.ents.length + 1) c3) ⟨L.first, L.ents ++ [(stamp y (E + 1))], L.dur⟩), .ob B2 31 (enCells (stamp y (E + 1))), .ob B1 25 (lgCells nilSl lgNil), .sl ((.slice a3 (L.ents.length + 1) c3)) 31 13 (L.ents.length + 1) (entRow L.ents ++ (([enCells (stamp y (E + 1))] : List (List Value)).flatMap id))] w11) := HS12.out.pull [0, 1, 2, 4] rfl (pull_nd HS12.out.nd [0, 1, 2, 4] rfl (by decide))
              clear HS12
              go_upto_region 9 with (fail)
              refine wp_region_held_drew (S := fun w' => Hold w.heap.size [.ob (w.heap.size) 25 (lgCells (.slice a3 (L.ents.length + 1) c3) ⟨L.first, L.ents ++ [(stamp y (E + 1))], L.dur⟩), .ob B2 31 (enCells (stamp y (E + 1)))] w') (by kernel_rfl) ((HS13.out).drew.pick [0, 1] rfl) (fun hHeld => ?_)
              refine wpAnyH_take (i := 0) (oi := { dst := some 38, op := Op.load 25 (Operand.tmp 2), type := 25, pos := "journal.go:65", after := #[], guard := none }) rfl (by kernel_rfl) (by kernel_rfl) (by kernel_rfl) (fun _ _ _ h => h) (yieldsIf_load_mid (by rfl) 25 (.tmp 2) rfl (w.heap.size) 0 rfl (lgCells (.slice a3 (L.ents.length + 1) c3) ⟨L.first, L.ents ++ [(stamp y (E + 1))], L.dur⟩) _ (fun _ h => h.whole 0 rfl) HUG.out rfl (info_lg)) hHeld ?_
              try simp only [Act.put, List.setIfInBounds_toArray, List.set_cons_zero, List.set_cons_succ]
              refine wpAnyH_take (i := 1) (oi := { dst := some 39, op := Op.fieldAddr 31 (Operand.tmp 3) 0, type := 0, pos := "journal.go:65", after := #[{ on := 3, ground := Ground.gcOnly Departure.lateStores }], guard := none }) (v := ?q5v) rfl (by kernel_rfl) (by kernel_rfl) (by kernel_rfl) (fun _ _ _ h => h) (Or.inl ⟨by rfl, ?q5h⟩) hHeld ?q5r
              case q5h => (intro wq hSw; clear hSw; go_simp; try with_reducible rfl)
              try simp only [Act.put, List.setIfInBounds_toArray, List.set_cons_zero, List.set_cons_succ]
              refine wpAnyH_take (i := 2) (oi := { dst := some 40, op := Op.load 3 (Operand.tmp 39), type := 3, pos := "journal.go:65", after := #[{ on := 1, ground := Ground.data }, { on := 3, ground := Ground.gcOnly Departure.lateStores }], guard := none }) (v := .int .i64 ((stamp y (E + 1)).lsn)) rfl (by kernel_rfl) (by kernel_rfl) (by kernel_rfl) (fun _ _ _ h => h) (Or.inl ⟨by rfl, ?q6h⟩) hHeld ?q6r
              case q6h => (intro wq hSw; have lq := hSw.at 1 rfl 0 (v := .int .i64 ((stamp y (E + 1)).lsn)) rfl; clear hSw; go_simp; try with_reducible rfl)
              try simp only [Act.put, List.setIfInBounds_toArray, List.set_cons_zero, List.set_cons_succ]
              refine wpAnyH_ready (rs := [3]) (by kernel_rfl) (by simp) ?_
              refine AllReadyH.cons (o := { dst := none, op := Op.store 25 (Operand.tmp 4) (Operand.tmp 38), type := 0, pos := "journal.go:65", after := #[{ on := 0, ground := Ground.data }, { on := 0, ground := Ground.phase }, { on := 1, ground := Ground.textOnly Departure.lateStores }, { on := 2, ground := Ground.textOnly Departure.lateStores }], guard := none }) rfl (fun K hK => ?_) (AllReadyH.nil)
              rw [if_pos (by rfl)]
              refine wp_store_ob 25 (.tmp 4) (.tmp 38) B1 (lgCells (.slice a3 (L.ents.length + 1) c3) ⟨L.first, L.ents ++ [(stamp y (E + 1))], L.dur⟩) (lgCells nilSl lgNil) 25 rfl rfl rfl rfl (((HS13.out).drew).get 2 rfl) (info_lg) (rfl) ((oneCell_lg _ _ _ _)) ?_
              have HS14 : Hid (Hp w [.ob (w.heap.size) 25 (lgCells (.slice a3 (L.ents.length + 1) c3) ⟨L.first, L.ents ++ [(stamp y (E + 1))], L.dur⟩), .ob B2 31 (enCells (stamp y (E + 1))), .ob B1 25 (lgCells (.slice a3 (L.ents.length + 1) c3) ⟨L.first, L.ents ++ [(stamp y (E + 1))], L.dur⟩), .sl ((.slice a3 (L.ents.length + 1) c3)) 31 13 (L.ents.length + 1) (entRow L.ents ++ (([enCells (stamp y (E + 1))] : List (List Value)).flatMap id))] (w11.drew.setRow B1 (lgCells (.slice a3 (L.ents.length + 1) c3) ⟨L.first, L.ents ++ [(stamp y (E + 1))], L.dur⟩).toArray)) := ((HS13.out).drew).row 2 rfl (lgCells (.slice a3 (L.ents.length + 1) c3) ⟨L.first, L.ents ++ [(stamp y (E + 1))], L.dur⟩)
              refine hK.out _ _ (HS14.out.pick [0, 1] rfl) (fun hHeld => ?_)
              clear hK K
              generalize (w11.drew.setRow B1 (lgCells (.slice a3 (L.ents.length + 1) c3) ⟨L.first, L.ents ++ [(stamp y (E + 1))], L.dur⟩).toArray) = w12 at *
              try simp only [Act.put, List.setIfInBounds_toArray, List.set_cons_zero, List.set_cons_succ]
              refine wpAnyH_take (i := 4) (oi := { dst := some 5, op := Op.assign (Operand.tmp 40), type := 3, pos := "journal.go:65", after := #[{ on := 2, ground := Ground.data }, { on := 3, ground := Ground.chain }, { on := 0, ground := Ground.phase }, { on := 1, ground := Ground.phase }, { on := 2, ground := Ground.phase }, { on := 3, ground := Ground.phase }], guard := none }) (v := ?q7v) rfl (by kernel_rfl) (by kernel_rfl) (by kernel_rfl) (fun _ _ _ h => h) (Or.inl ⟨by rfl, ?q7h⟩) hHeld ?q7r
              case q7h => (intro wq hSw; clear hSw; go_simp; try with_reducible rfl)
              try simp only [Act.put, List.setIfInBounds_toArray, List.set_cons_zero, List.set_cons_succ]
              refine wpAnyH_take (i := 5) (oi := { dst := some 6, op := Op.assign (Operand.const (Value.int IntKind.i64 0)), type := 32, pos := "journal.go:65", after := #[{ on := 4, ground := Ground.chain }, { on := 0, ground := Ground.phase }, { on := 1, ground := Ground.phase }, { on := 2, ground := Ground.phase }, { on := 3, ground := Ground.phase }, { on := 4, ground := Ground.phase }], guard := none }) (v := ?q8v) rfl (by kernel_rfl) (by kernel_rfl) (by kernel_rfl) (fun _ _ _ h => h) (Or.inl ⟨by rfl, ?q8h⟩) hHeld ?q8r
              case q8h => (intro wq hSw; clear hSw; go_simp; try with_reducible rfl)
              try simp only [Act.put, List.setIfInBounds_toArray, List.set_cons_zero, List.set_cons_succ]
              refine wpAnyH_done (by kernel_rfl) ?_ _
              clear hHeld
              go_wp2_with fail
              refine bodyPost_ret (results_ob_tmp2 Tryd.results5 _ _ B1 (lgCells (.slice a3 (L.ents.length + 1) c3) ⟨L.first, L.ents ++ [(stamp y (E + 1))], L.dur⟩) 25 _ rfl ((HS14.out).get 2 rfl) HUG.out rfl info_lg) rfl ?_
              have hval : appendR L y = (⟨L.first, L.ents ++ [(stamp y (E + 1))], L.dur⟩, E + 1, 0) := by rw [HFr.out, if_neg (by decide), if_neg (by have := HX1.out; have := HX2.out; omega), if_neg (by rw [HVb.out]; decide)]
              have hown := (HS14.out).own 3 rfl
              obtain ⟨R2, hr2, hi2, hn2⟩ := own_reads hown
              refine lgpost_as3 ⟨_, R2, rfl, ?_, hi2, fun r hr => .inl (hn2 r hr).1, (HS14.out).old⟩ hval.symm
              show SlRd _ 13 (L.ents ++ [(stamp y (E + 1))]).length (entRow (L.ents ++ [(stamp y (E + 1))])) R2
              rw [List.length_append, entRow_append, entRow_one]
              simpa using hr2
            · rw [if_pos (by rfl)]
              refine wp_build_obs rfl elem_en HUX.out [enCells (stamp y (E + 1))] (List.forall_mem_cons.2 ⟨rfl, (fun _ h => absurd h List.not_mem_nil)⟩) (Nat.succ_pos _) (by simp only [List.length_cons, List.length_nil]; omega) rfl (by simp only [List.map_toArray, List.map_cons, List.map_nil, List.zipIdx_cons, List.zipIdx_nil]; exact rfl) ?_
              have HS8 : Hid (Hp w [.ob (w.heap.size) 25 (lgCells (.slice a L.ents.length cap) L), .ob B2 31 (enCells (stamp y (E + 1))), .ob B1 25 (lgCells nilSl lgNil), .ob (w7.heap.size) 31 (([enCells (stamp y (E + 1))] : List (List Value)).flatMap id)] (w7.alloc (.cells (([enCells (stamp y (E + 1))] : List (List Value)).flatMap id).toArray 31))) := (HS7.out).put 31 (([enCells (stamp y (E + 1))] : List (List Value)).flatMap id)
              refine hK.out _ _ (⟨⟨_, HS8.out.at 0 rfl 1 rfl⟩, HS8.out.pick [1] rfl⟩) (fun hHeld => ?_)
              clear hK K
              generalize (w7.alloc (.cells (([enCells (stamp y (E + 1))] : List (List Value)).flatMap id).toArray 31)) = w8 at *
              generalize w7.heap.size = B3 at *
              try simp only [Act.put, List.setIfInBounds_toArray, List.set_cons_zero, List.set_cons_succ]
              refine wpAnyH_ready (rs := [2]) (by kernel_rfl) (by simp) ?_
              refine AllReadyH.cons (o := { dst := some 33, op := Op.call { callee := Callee.value (Operand.func 14), args := #[Operand.tmp 32], argTypes := #[23] }, type := 23, pos := "journal.go:64", after := #[{ on := 1, ground := Ground.data }], guard := none }) rfl (fun K hK => ?_) (AllReadyH.nil)
              go_simp
              go_wp2_with (go_at_call 14; refine (clip_en a L.ents.length cap HCp.out _).mono ?_; rintro e w9 ⟨rfl, rfl⟩)
              have HS9 : Hid (Hp w [.ob (w.heap.size) 25 (lgCells (.slice a L.ents.length cap) L), .ob B2 31 (enCells (stamp y (E + 1))), .ob B1 25 (lgCells nilSl lgNil), .ob B3 31 (([enCells (stamp y (E + 1))] : List (List Value)).flatMap id)] w8) := HS8.out
              refine hK.out _ _ (⟨⟨_, HS9.out.at 0 rfl 1 rfl⟩, HS9.out.pick [1] rfl⟩) (fun hHeld => ?_)
              clear hK K
              try simp only [Act.put, List.setIfInBounds_toArray, List.set_cons_zero, List.set_cons_succ]
              refine wpAnyH_ready (rs := [5]) (by kernel_rfl) (by simp) ?_
              refine AllReadyH.cons (o := { dst := some 36, op := Op.call { callee := Callee.builtin Builtin.append, args := #[Operand.tmp 33, Operand.tmp 35], argTypes := #[23, 23] }, type := 23, pos := "journal.go:64", after := #[{ on := 2, ground := Ground.data }, { on := 4, ground := Ground.data }, { on := 2, ground := Ground.chain }], guard := none }) rfl (fun K hK => ?_) (AllReadyH.nil)
              rw [if_pos (by rfl)]
              refine wp_append_new (HS9.out) (.tmp 33) (.tmp 35) 23 rfl HLr.out (HRr.out.below (HS9.out).old) rfl 3 rfl HUX.out elem_en 1 1 rfl rfl rfl (all_one_en _) (by decide) (by have := HI.out.few; omega) ?_
              intro v10 w10 hs
              have HS11 : Hid (Hp w [.ob (w.heap.size) 25 (lgCells (.slice a L.ents.length cap) L), .ob B2 31 (enCells (stamp y (E + 1))), .ob B1 25 (lgCells nilSl lgNil), .ob B3 31 (([enCells (stamp y (E + 1))] : List (List Value)).flatMap id), .sl v10 31 13 (L.ents.length + 1) (entRow L.ents ++ (([enCells (stamp y (E + 1))] : List (List Value)).flatMap id))] w10) := hs
              refine hK.out _ _ (⟨⟨_, HS11.out.at 0 rfl 1 rfl⟩, HS11.out.pick [1] rfl⟩) (fun hHeld => ?_)
              clear hK K hs
              try simp only [Act.put, List.setIfInBounds_toArray, List.set_cons_zero, List.set_cons_succ]
              refine wpAnyH_take (i := 6) (oi := { dst := some 37, op := Op.fieldAddr 25 (Operand.tmp 2) 1, type := 0, pos := "journal.go:64", after := #[{ on := 0, ground := Ground.phase }, { on := 1, ground := Ground.phase }, { on := 2, ground := Ground.phase }, { on := 3, ground := Ground.phase }, { on := 4, ground := Ground.phase }, { on := 5, ground := Ground.phase }], guard := none }) (v := ?q9v) rfl (by kernel_rfl) (by kernel_rfl) (by kernel_rfl) (fun _ _ _ h => h) (Or.inl ⟨by rfl, ?q9h⟩) hHeld ?q9r
              case q9h => (intro wq hSw; clear hSw; go_simp; try with_reducible rfl)
              try simp only [Act.put, List.setIfInBounds_toArray, List.set_cons_zero, List.set_cons_succ]
              refine wpAnyH_ready (rs := [7]) (by kernel_rfl) (by simp) ?_
              refine AllReadyH.cons (o := { dst := none, op := Op.store 23 (Operand.tmp 37) (Operand.tmp 36), type := 0, pos := "journal.go:64", after := #[{ on := 6, ground := Ground.data }, { on := 5, ground := Ground.data }, { on := 5, ground := Ground.chain }, { on := 0, ground := Ground.phase }, { on := 1, ground := Ground.phase }, { on := 2, ground := Ground.phase }, { on := 3, ground := Ground.phase }, { on := 4, ground := Ground.phase }, { on := 5, ground := Ground.phase }], guard := none }) rfl (fun K hK => ?_) (AllReadyH.nil)
              obtain ⟨a3, c3, rfl⟩ := own_slice ((HS11.out).own 4 rfl)
              have f52 := (HS11.out).frozen 0 rfl 1
              have q52 := (HS11.out).at 0 rfl 1 rfl
              go_simp
              clear q52 f52
              have HS12 : Hid (Hp w [.ob (w.heap.size) 25 (lgCells (.slice a3 (L.ents.length + 1) c3) ⟨L.first, L.ents ++ [(stamp y (E + 1))], L.dur⟩), .ob B2 31 (enCells (stamp y (E + 1))), .ob B1 25 (lgCells nilSl lgNil), .ob B3 31 (([enCells (stamp y (E + 1))] : List (List Value)).flatMap id), .sl ((.slice a3 (L.ents.length + 1) c3)) 31 13 (L.ents.length + 1) (entRow L.ents ++ (([enCells (stamp y (E + 1))] : List (List Value)).flatMap id))] (w10.setCell ⟨w.heap.size, 1, none⟩ (.slice a3 (L.ents.length + 1) c3))) := (HS11.out).set 0 rfl 1 (.slice a3 (L.ents.length + 1) c3)
              refine hK.out _ _ (⟨⟨_, HS12.out.at 0 rfl 1 rfl⟩, HS12.out.pick [1] rfl⟩) (fun hHeld => ?_)
              clear hK K
              generalize (w10.setCell ⟨w.heap.size, 1, none⟩ (.slice a3 (L.ents.length + 1) c3)) = w11 at *
              try simp only [Act.put, List.setIfInBounds_toArray, List.set_cons_zero, List.set_cons_succ]
              refine wpAnyH_done (by kernel_rfl) ?_ _
              clear hHeld
              have HS13 : Hid (Hp w [.ob (w.heap.size) 25 (lgCells (.slice a3 (L.ents.length + 1) c3) ⟨L.first, L.ents ++ [(stamp y (E + 1))], L.dur⟩), .ob B2 31 (enCells (stamp y (E + 1))), .ob B1 25 (lgCells nilSl lgNil), .sl ((.slice a3 (L.ents.length + 1) c3)) 31 13 (L.ents.length + 1) (entRow L.ents ++ (([enCells (stamp y (E + 1))] : List (List Value)).flatMap id))] w11) := HS12.out.pull [0, 1, 2, 4] rfl (pull_nd HS12.out.nd [0, 1, 2, 4] rfl (by decide))
              clear HS12
              go_upto_region 9 with (fail)
              refine wp_region_held_drew (S := fun w' => Hold w.heap.size [.ob (w.heap.size) 25 (lgCells (.slice a3 (L.ents.length + 1) c3) ⟨L.first, L.ents ++ [(stamp y (E + 1))], L.dur⟩), .ob B2 31 (enCells (stamp y (E + 1)))] w') (by kernel_rfl) ((HS13.out).drew.pick [0, 1] rfl) (fun hHeld => ?_)
              refine wpAnyH_take (i := 0) (oi := { dst := some 38, op := Op.load 25 (Operand.tmp 2), type := 25, pos := "journal.go:65", after := #[], guard := none }) rfl (by kernel_rfl) (by kernel_rfl) (by kernel_rfl) (fun _ _ _ h => h) (yieldsIf_load_mid (by rfl) 25 (.tmp 2) rfl (w.heap.size) 0 rfl (lgCells (.slice a3 (L.ents.length + 1) c3) ⟨L.first, L.ents ++ [(stamp y (E + 1))], L.dur⟩) _ (fun _ h => h.whole 0 rfl) HUG.out rfl (info_lg)) hHeld ?_
              try simp only [Act.put, List.setIfInBounds_toArray, List.set_cons_zero, List.set_cons_succ]
              refine wpAnyH_take (i := 1) (oi := { dst := some 39, op := Op.fieldAddr 31 (Operand.tmp 3) 0, type := 0, pos := "journal.go:65", after := #[{ on := 3, ground := Ground.gcOnly Departure.lateStores }], guard := none }) (v := ?q11v) rfl (by kernel_rfl) (by kernel_rfl) (by kernel_rfl) (fun _ _ _ h => h) (Or.inl ⟨by rfl, ?q11h⟩) hHeld ?q11r
              case q11h => (intro wq hSw; clear hSw; go_simp; try with_reducible rfl)
              try simp only [Act.put, List.setIfInBounds_toArray, List.set_cons_zero, List.set_cons_succ]
              refine wpAnyH_take (i := 2) (oi := { dst := some 40, op := Op.load 3 (Operand.tmp 39), type := 3, pos := "journal.go:65", after := #[{ on := 1, ground := Ground.data }, { on := 3, ground := Ground.gcOnly Departure.lateStores }], guard := none }) (v := .int .i64 ((stamp y (E + 1)).lsn)) rfl (by kernel_rfl) (by kernel_rfl) (by kernel_rfl) (fun _ _ _ h => h) (Or.inl ⟨by rfl, ?q12h⟩) hHeld ?q12r
              case q12h => (intro wq hSw; have lq := hSw.at 1 rfl 0 (v := .int .i64 ((stamp y (E + 1)).lsn)) rfl; clear hSw; go_simp; try with_reducible rfl)
              try simp only [Act.put, List.setIfInBounds_toArray, List.set_cons_zero, List.set_cons_succ]
              refine wpAnyH_ready (rs := [3]) (by kernel_rfl) (by simp) ?_
              refine AllReadyH.cons (o := { dst := none, op := Op.store 25 (Operand.tmp 4) (Operand.tmp 38), type := 0, pos := "journal.go:65", after := #[{ on := 0, ground := Ground.data }, { on := 0, ground := Ground.phase }, { on := 1, ground := Ground.textOnly Departure.lateStores }, { on := 2, ground := Ground.textOnly Departure.lateStores }], guard := none }) rfl (fun K hK => ?_) (AllReadyH.nil)
              rw [if_pos (by rfl)]
              refine wp_store_ob 25 (.tmp 4) (.tmp 38) B1 (lgCells (.slice a3 (L.ents.length + 1) c3) ⟨L.first, L.ents ++ [(stamp y (E + 1))], L.dur⟩) (lgCells nilSl lgNil) 25 rfl rfl rfl rfl (((HS13.out).drew).get 2 rfl) (info_lg) (rfl) ((oneCell_lg _ _ _ _)) ?_
              have HS14 : Hid (Hp w [.ob (w.heap.size) 25 (lgCells (.slice a3 (L.ents.length + 1) c3) ⟨L.first, L.ents ++ [(stamp y (E + 1))], L.dur⟩), .ob B2 31 (enCells (stamp y (E + 1))), .ob B1 25 (lgCells (.slice a3 (L.ents.length + 1) c3) ⟨L.first, L.ents ++ [(stamp y (E + 1))], L.dur⟩), .sl ((.slice a3 (L.ents.length + 1) c3)) 31 13 (L.ents.length + 1) (entRow L.ents ++ (([enCells (stamp y (E + 1))] : List (List Value)).flatMap id))] (w11.drew.setRow B1 (lgCells (.slice a3 (L.ents.length + 1) c3) ⟨L.first, L.ents ++ [(stamp y (E + 1))], L.dur⟩).toArray)) := ((HS13.out).drew).row 2 rfl (lgCells (.slice a3 (L.ents.length + 1) c3) ⟨L.first, L.ents ++ [(stamp y (E + 1))], L.dur⟩)
              refine hK.out _ _ (HS14.out.pick [0, 1] rfl) (fun hHeld => ?_)
              clear hK K
              generalize (w11.drew.setRow B1 (lgCells (.slice a3 (L.ents.length + 1) c3) ⟨L.first, L.ents ++ [(stamp y (E + 1))], L.dur⟩).toArray) = w12 at *
              try simp only [Act.put, List.setIfInBounds_toArray, List.set_cons_zero, List.set_cons_succ]
              refine wpAnyH_take (i := 4) (oi := { dst := some 5, op := Op.assign (Operand.tmp 40), type := 3, pos := "journal.go:65", after := #[{ on := 2, ground := Ground.data }, { on := 3, ground := Ground.chain }, { on := 0, ground := Ground.phase }, { on := 1, ground := Ground.phase }, { on := 2, ground := Ground.phase }, { on := 3, ground := Ground.phase }], guard := none }) (v := ?q13v) rfl (by kernel_rfl) (by kernel_rfl) (by kernel_rfl) (fun _ _ _ h => h) (Or.inl ⟨by rfl, ?q13h⟩) hHeld ?q13r
              case q13h => (intro wq hSw; clear hSw; go_simp; try with_reducible rfl)
              try simp only [Act.put, List.setIfInBounds_toArray, List.set_cons_zero, List.set_cons_succ]
              refine wpAnyH_take (i := 5) (oi := { dst := some 6, op := Op.assign (Operand.const (Value.int IntKind.i64 0)), type := 32, pos := "journal.go:65", after := #[{ on := 4, ground := Ground.chain }, { on := 0, ground := Ground.phase }, { on := 1, ground := Ground.phase }, { on := 2, ground := Ground.phase }, { on := 3, ground := Ground.phase }, { on := 4, ground := Ground.phase }], guard := none }) (v := ?q14v) rfl (by kernel_rfl) (by kernel_rfl) (by kernel_rfl) (fun _ _ _ h => h) (Or.inl ⟨by rfl, ?q14h⟩) hHeld ?q14r
              case q14h => (intro wq hSw; clear hSw; go_simp; try with_reducible rfl)
              try simp only [Act.put, List.setIfInBounds_toArray, List.set_cons_zero, List.set_cons_succ]
              refine wpAnyH_done (by kernel_rfl) ?_ _
              clear hHeld
              go_wp2_with fail
              refine bodyPost_ret (results_ob_tmp2 Tryd.results5 _ _ B1 (lgCells (.slice a3 (L.ents.length + 1) c3) ⟨L.first, L.ents ++ [(stamp y (E + 1))], L.dur⟩) 25 _ rfl ((HS14.out).get 2 rfl) HUG.out rfl info_lg) rfl ?_
              have hval : appendR L y = (⟨L.first, L.ents ++ [(stamp y (E + 1))], L.dur⟩, E + 1, 0) := by rw [HFr.out, if_neg (by decide), if_neg (by have := HX1.out; have := HX2.out; omega), if_neg (by rw [HVb.out]; decide)]
              have hown := (HS14.out).own 3 rfl
              obtain ⟨R2, hr2, hi2, hn2⟩ := own_reads hown
              refine lgpost_as3 ⟨_, R2, rfl, ?_, hi2, fun r hr => .inl (hn2 r hr).1, (HS14.out).old⟩ hval.symm
              show SlRd _ 13 (L.ents ++ [(stamp y (E + 1))]).length (entRow (L.ents ++ [(stamp y (E + 1))])) R2
              rw [List.length_append, entRow_append, entRow_one]
              simpa using hr2
          · rw [if_pos (by rfl)]
            refine wp_build_obs rfl elem_en HUX.out [enCells (stamp y (E + 1))] (List.forall_mem_cons.2 ⟨rfl, (fun _ h => absurd h List.not_mem_nil)⟩) (Nat.succ_pos _) (by simp only [List.length_cons, List.length_nil]; omega) rfl (by simp only [List.map_toArray, List.map_cons, List.map_nil, List.zipIdx_cons, List.zipIdx_nil]; exact rfl) ?_
            have HS7 : Hid (Hp w [.ob (w.heap.size) 25 (lgCells (.slice a L.ents.length cap) L), .ob B2 31 (enCells (stamp y (E + 1))), .ob B1 25 (lgCells nilSl lgNil), .ob (w6.drew.heap.size) 31 (([enCells (stamp y (E + 1))] : List (List Value)).flatMap id)] (w6.drew.alloc (.cells (([enCells (stamp y (E + 1))] : List (List Value)).flatMap id).toArray 31))) := ((HS6.out).drew).put 31 (([enCells (stamp y (E + 1))] : List (List Value)).flatMap id)
            refine hK.out _ _ (⟨⟨_, HS7.out.at 0 rfl 1 rfl⟩, HS7.out.pick [1] rfl⟩) (fun hHeld => ?_)
            clear hK K
            generalize (w6.drew.alloc (.cells (([enCells (stamp y (E + 1))] : List (List Value)).flatMap id).toArray 31)) = w7 at *
            generalize w6.drew.heap.size = B3 at *
            try simp only [Act.put, List.setIfInBounds_toArray, List.set_cons_zero, List.set_cons_succ]
            refine wpAnyH_ready (rs := [1]) (by kernel_rfl) (by simp) ?_
            refine AllReadyH.cons (o := { dst := some 32, op := Op.load 23 (Operand.tmp 31), type := 23, pos := "journal.go:64", after := #[{ on := 0, ground := Ground.data }], guard := none }) rfl (fun K hK => ?_) (AllReadyH.nil)
            have q41 := (HS7.out).at 0 rfl 1 rfl
            go_simp
            clear q41
            have HS8 : Hid (Hp w [.ob (w.heap.size) 25 (lgCells (.slice a L.ents.length cap) L), .ob B2 31 (enCells (stamp y (E + 1))), .ob B1 25 (lgCells nilSl lgNil), .ob B3 31 (([enCells (stamp y (E + 1))] : List (List Value)).flatMap id)] w7) := HS7.out
            refine hK.out _ _ (⟨⟨_, HS8.out.at 0 rfl 1 rfl⟩, HS8.out.pick [1] rfl⟩) (fun hHeld => ?_)
            clear hK K
            try simp only [Act.put, List.setIfInBounds_toArray, List.set_cons_zero, List.set_cons_succ]
            refine wpAnyH_ready (rs := [2]) (by kernel_rfl) (by simp) ?_
            refine AllReadyH.cons (o := { dst := some 33, op := Op.call { callee := Callee.value (Operand.func 14), args := #[Operand.tmp 32], argTypes := #[23] }, type := 23, pos := "journal.go:64", after := #[{ on := 1, ground := Ground.data }], guard := none }) rfl (fun K hK => ?_) (AllReadyH.nil)
            go_simp
            go_wp2_with (go_at_call 14; refine (clip_en a L.ents.length cap HCp.out _).mono ?_; rintro e w8 ⟨rfl, rfl⟩)
            have HS9 : Hid (Hp w [.ob (w.heap.size) 25 (lgCells (.slice a L.ents.length cap) L), .ob B2 31 (enCells (stamp y (E + 1))), .ob B1 25 (lgCells nilSl lgNil), .ob B3 31 (([enCells (stamp y (E + 1))] : List (List Value)).flatMap id)] w7) := HS8.out
            refine hK.out _ _ (⟨⟨_, HS9.out.at 0 rfl 1 rfl⟩, HS9.out.pick [1] rfl⟩) (fun hHeld => ?_)
            clear hK K
            try simp only [Act.put, List.setIfInBounds_toArray, List.set_cons_zero, List.set_cons_succ]
            refine wpAnyH_ready (rs := [5]) (by kernel_rfl) (by simp) ?_
            refine AllReadyH.cons (o := { dst := some 36, op := Op.call { callee := Callee.builtin Builtin.append, args := #[Operand.tmp 33, Operand.tmp 35], argTypes := #[23, 23] }, type := 23, pos := "journal.go:64", after := #[{ on := 2, ground := Ground.data }, { on := 4, ground := Ground.data }, { on := 2, ground := Ground.chain }], guard := none }) rfl (fun K hK => ?_) (AllReadyH.nil)
            rw [if_pos (by rfl)]
            refine wp_append_new (HS9.out) (.tmp 33) (.tmp 35) 23 rfl HLr.out (HRr.out.below (HS9.out).old) rfl 3 rfl HUX.out elem_en 1 1 rfl rfl rfl (all_one_en _) (by decide) (by have := HI.out.few; omega) ?_
            intro v9 w9 hs
            have HS11 : Hid (Hp w [.ob (w.heap.size) 25 (lgCells (.slice a L.ents.length cap) L), .ob B2 31 (enCells (stamp y (E + 1))), .ob B1 25 (lgCells nilSl lgNil), .ob B3 31 (([enCells (stamp y (E + 1))] : List (List Value)).flatMap id), .sl v9 31 13 (L.ents.length + 1) (entRow L.ents ++ (([enCells (stamp y (E + 1))] : List (List Value)).flatMap id))] w9) := hs
            refine hK.out _ _ (⟨⟨_, HS11.out.at 0 rfl 1 rfl⟩, HS11.out.pick [1] rfl⟩) (fun hHeld => ?_)
            clear hK K hs
            try simp only [Act.put, List.setIfInBounds_toArray, List.set_cons_zero, List.set_cons_succ]
            refine wpAnyH_take (i := 6) (oi := { dst := some 37, op := Op.fieldAddr 25 (Operand.tmp 2) 1, type := 0, pos := "journal.go:64", after := #[{ on := 0, ground := Ground.phase }, { on := 1, ground := Ground.phase }, { on := 2, ground := Ground.phase }, { on := 3, ground := Ground.phase }, { on := 4, ground := Ground.phase }, { on := 5, ground := Ground.phase }], guard := none }) (v := ?q15v) rfl (by kernel_rfl) (by kernel_rfl) (by kernel_rfl) (fun _ _ _ h => h) (Or.inl ⟨by rfl, ?q15h⟩) hHeld ?q15r
            case q15h => (intro wq hSw; clear hSw; go_simp; try with_reducible rfl)
            try simp only [Act.put, List.setIfInBounds_toArray, List.set_cons_zero, List.set_cons_succ]
            refine wpAnyH_ready (rs := [7]) (by kernel_rfl) (by simp) ?_
            refine AllReadyH.cons (o := { dst := none, op := Op.store 23 (Operand.tmp 37) (Operand.tmp 36), type := 0, pos := "journal.go:64", after := #[{ on := 6, ground := Ground.data }, { on := 5, ground := Ground.data }, { on := 5, ground := Ground.chain }, { on := 0, ground := Ground.phase }, { on := 1, ground := Ground.phase }, { on := 2, ground := Ground.phase }, { on := 3, ground := Ground.phase }, { on := 4, ground := Ground.phase }, { on := 5, ground := Ground.phase }], guard := none }) rfl (fun K hK => ?_) (AllReadyH.nil)
            obtain ⟨a3, c3, rfl⟩ := own_slice ((HS11.out).own 4 rfl)
            have f52 := (HS11.out).frozen 0 rfl 1
            have q52 := (HS11.out).at 0 rfl 1 rfl
            go_simp
            clear q52 f52
            have HS12 : Hid (Hp w [.ob (w.heap.size) 25 (lgCells (.slice a3 (L.ents.length + 1) c3) ⟨L.first, L.ents ++ [(stamp y (E + 1))], L.dur⟩), .ob B2 31 (enCells (stamp y (E + 1))), .ob B1 25 (lgCells nilSl lgNil), .ob B3 31 (([enCells (stamp y (E + 1))] : List (List Value)).flatMap id), .sl ((.slice a3 (L.ents.length + 1) c3)) 31 13 (L.ents.length + 1) (entRow L.ents ++ (([enCells (stamp y (E + 1))] : List (List Value)).flatMap id))] (w9.setCell ⟨w.heap.size, 1, none⟩ (.slice a3 (L.ents.length + 1) c3))) := (HS11.out).set 0 rfl 1 (.slice a3 (L.ents.length + 1) c3)
            refine hK.out _ _ (⟨⟨_, HS12.out.at 0 rfl 1 rfl⟩, HS12.out.pick [1] rfl⟩) (fun hHeld => ?_)
            clear hK K
            generalize (w9.setCell ⟨w.heap.size, 1, none⟩ (.slice a3 (L.ents.length + 1) c3)) = w10 at *
            try simp only [Act.put, List.setIfInBounds_toArray, List.set_cons_zero, List.set_cons_succ]
            refine wpAnyH_done (by kernel_rfl) ?_ _
            clear hHeld
            have HS13 : Hid (Hp w [.ob (w.heap.size) 25 (lgCells (.slice a3 (L.ents.length + 1) c3) ⟨L.first, L.ents ++ [(stamp y (E + 1))], L.dur⟩), .ob B2 31 (enCells (stamp y (E + 1))), .ob B1 25 (lgCells nilSl lgNil), .sl ((.slice a3 (L.ents.length + 1) c3)) 31 13 (L.ents.length + 1) (entRow L.ents ++ (([enCells (stamp y (E + 1))] : List (List Value)).flatMap id))] w10) := HS12.out.pull [0, 1, 2, 4] rfl (pull_nd HS12.out.nd [0, 1, 2, 4] rfl (by decide))
            clear HS12
            go_upto_region 9 with (fail)
            refine wp_region_held_drew (S := fun w' => Hold w.heap.size [.ob (w.heap.size) 25 (lgCells (.slice a3 (L.ents.length + 1) c3) ⟨L.first, L.ents ++ [(stamp y (E + 1))], L.dur⟩), .ob B2 31 (enCells (stamp y (E + 1)))] w') (by kernel_rfl) ((HS13.out).drew.pick [0, 1] rfl) (fun hHeld => ?_)
            refine wpAnyH_take (i := 0) (oi := { dst := some 38, op := Op.load 25 (Operand.tmp 2), type := 25, pos := "journal.go:65", after := #[], guard := none }) rfl (by kernel_rfl) (by kernel_rfl) (by kernel_rfl) (fun _ _ _ h => h) (yieldsIf_load_mid (by rfl) 25 (.tmp 2) rfl (w.heap.size) 0 rfl (lgCells (.slice a3 (L.ents.length + 1) c3) ⟨L.first, L.ents ++ [(stamp y (E + 1))], L.dur⟩) _ (fun _ h => h.whole 0 rfl) HUG.out rfl (info_lg)) hHeld ?_
            try simp only [Act.put, List.setIfInBounds_toArray, List.set_cons_zero, List.set_cons_succ]
            refine wpAnyH_take (i := 1) (oi := { dst := some 39, op := Op.fieldAddr 31 (Operand.tmp 3) 0, type := 0, pos := "journal.go:65", after := #[{ on := 3, ground := Ground.gcOnly Departure.lateStores }], guard := none }) (v := ?q17v) rfl (by kernel_rfl) (by kernel_rfl) (by kernel_rfl) (fun _ _ _ h => h) (Or.inl ⟨by rfl, ?q17h⟩) hHeld ?q17r
            case q17h => (intro wq hSw; clear hSw; go_simp; try with_reducible rfl)
            try simp only [Act.put, List.setIfInBounds_toArray, List.set_cons_zero, List.set_cons_succ]
            refine wpAnyH_take (i := 2) (oi := { dst := some 40, op := Op.load 3 (Operand.tmp 39), type := 3, pos := "journal.go:65", after := #[{ on := 1, ground := Ground.data }, { on := 3, ground := Ground.gcOnly Departure.lateStores }], guard := none }) (v := .int .i64 ((stamp y (E + 1)).lsn)) rfl (by kernel_rfl) (by kernel_rfl) (by kernel_rfl) (fun _ _ _ h => h) (Or.inl ⟨by rfl, ?q18h⟩) hHeld ?q18r
            case q18h => (intro wq hSw; have lq := hSw.at 1 rfl 0 (v := .int .i64 ((stamp y (E + 1)).lsn)) rfl; clear hSw; go_simp; try with_reducible rfl)
            try simp only [Act.put, List.setIfInBounds_toArray, List.set_cons_zero, List.set_cons_succ]
            refine wpAnyH_ready (rs := [3]) (by kernel_rfl) (by simp) ?_
            refine AllReadyH.cons (o := { dst := none, op := Op.store 25 (Operand.tmp 4) (Operand.tmp 38), type := 0, pos := "journal.go:65", after := #[{ on := 0, ground := Ground.data }, { on := 0, ground := Ground.phase }, { on := 1, ground := Ground.textOnly Departure.lateStores }, { on := 2, ground := Ground.textOnly Departure.lateStores }], guard := none }) rfl (fun K hK => ?_) (AllReadyH.nil)
            rw [if_pos (by rfl)]
            refine wp_store_ob 25 (.tmp 4) (.tmp 38) B1 (lgCells (.slice a3 (L.ents.length + 1) c3) ⟨L.first, L.ents ++ [(stamp y (E + 1))], L.dur⟩) (lgCells nilSl lgNil) 25 rfl rfl rfl rfl (((HS13.out).drew).get 2 rfl) (info_lg) (rfl) ((oneCell_lg _ _ _ _)) ?_
            have HS14 : Hid (Hp w [.ob (w.heap.size) 25 (lgCells (.slice a3 (L.ents.length + 1) c3) ⟨L.first, L.ents ++ [(stamp y (E + 1))], L.dur⟩), .ob B2 31 (enCells (stamp y (E + 1))), .ob B1 25 (lgCells (.slice a3 (L.ents.length + 1) c3) ⟨L.first, L.ents ++ [(stamp y (E + 1))], L.dur⟩), .sl ((.slice a3 (L.ents.length + 1) c3)) 31 13 (L.ents.length + 1) (entRow L.ents ++ (([enCells (stamp y (E + 1))] : List (List Value)).flatMap id))] (w10.drew.setRow B1 (lgCells (.slice a3 (L.ents.length + 1) c3) ⟨L.first, L.ents ++ [(stamp y (E + 1))], L.dur⟩).toArray)) := ((HS13.out).drew).row 2 rfl (lgCells (.slice a3 (L.ents.length + 1) c3) ⟨L.first, L.ents ++ [(stamp y (E + 1))], L.dur⟩)
            refine hK.out _ _ (HS14.out.pick [0, 1] rfl) (fun hHeld => ?_)
            clear hK K
            generalize (w10.drew.setRow B1 (lgCells (.slice a3 (L.ents.length + 1) c3) ⟨L.first, L.ents ++ [(stamp y (E + 1))], L.dur⟩).toArray) = w11 at *
            try simp only [Act.put, List.setIfInBounds_toArray, List.set_cons_zero, List.set_cons_succ]
            refine wpAnyH_take (i := 4) (oi := { dst := some 5, op := Op.assign (Operand.tmp 40), type := 3, pos := "journal.go:65", after := #[{ on := 2, ground := Ground.data }, { on := 3, ground := Ground.chain }, { on := 0, ground := Ground.phase }, { on := 1, ground := Ground.phase }, { on := 2, ground := Ground.phase }, { on := 3, ground := Ground.phase }], guard := none }) (v := ?q19v) rfl (by kernel_rfl) (by kernel_rfl) (by kernel_rfl) (fun _ _ _ h => h) (Or.inl ⟨by rfl, ?q19h⟩) hHeld ?q19r
            case q19h => (intro wq hSw; clear hSw; go_simp; try with_reducible rfl)
            try simp only [Act.put, List.setIfInBounds_toArray, List.set_cons_zero, List.set_cons_succ]
            refine wpAnyH_take (i := 5) (oi := { dst := some 6, op := Op.assign (Operand.const (Value.int IntKind.i64 0)), type := 32, pos := "journal.go:65", after := #[{ on := 4, ground := Ground.chain }, { on := 0, ground := Ground.phase }, { on := 1, ground := Ground.phase }, { on := 2, ground := Ground.phase }, { on := 3, ground := Ground.phase }, { on := 4, ground := Ground.phase }], guard := none }) (v := ?q20v) rfl (by kernel_rfl) (by kernel_rfl) (by kernel_rfl) (fun _ _ _ h => h) (Or.inl ⟨by rfl, ?q20h⟩) hHeld ?q20r
            case q20h => (intro wq hSw; clear hSw; go_simp; try with_reducible rfl)
            try simp only [Act.put, List.setIfInBounds_toArray, List.set_cons_zero, List.set_cons_succ]
            refine wpAnyH_done (by kernel_rfl) ?_ _
            clear hHeld
            go_wp2_with fail
            refine bodyPost_ret (results_ob_tmp2 Tryd.results5 _ _ B1 (lgCells (.slice a3 (L.ents.length + 1) c3) ⟨L.first, L.ents ++ [(stamp y (E + 1))], L.dur⟩) 25 _ rfl ((HS14.out).get 2 rfl) HUG.out rfl info_lg) rfl ?_
            have hval : appendR L y = (⟨L.first, L.ents ++ [(stamp y (E + 1))], L.dur⟩, E + 1, 0) := by rw [HFr.out, if_neg (by decide), if_neg (by have := HX1.out; have := HX2.out; omega), if_neg (by rw [HVb.out]; decide)]
            have hown := (HS14.out).own 3 rfl
            obtain ⟨R2, hr2, hi2, hn2⟩ := own_reads hown
            refine lgpost_as3 ⟨_, R2, rfl, ?_, hi2, fun r hr => .inl (hn2 r hr).1, (HS14.out).old⟩ hval.symm
            show SlRd _ 13 (L.ents ++ [(stamp y (E + 1))]).length (entRow (L.ents ++ [(stamp y (E + 1))])) R2
            rw [List.length_append, entRow_append, entRow_one]
            simpa using hr2
end Go.Proofs.YtpmfdpkcnldpiaaDoor
/- a builder that nothing was written to -/
namespace Go.Proofs.YtpmfdpkcnldpiaaDoor
open Go.RowKit
set_option maxRecDepth 20000
set_option linter.unusedSimpArgs false
set_option linter.unusedVariables false

set_option maxHeartbeats 1000000 in
theorem string_nil (B : Nat) (w : World) (hbk : w.heap[B]? = some (.cells #[.pointer none, .slice none 0 0] 59 (0, 0))) :
    Calls Tryd.prog 25 #[.pointer (some ⟨B, 0, none⟩)] w fun e w' => e = .returned (.string ⟨#[]⟩) ∧ Below w.heap.size w w' := by
  have hUS : ∀ W, (Builtin.unsafeString_ #[72, 3] 9 #[.pointer none, .int .i64 0]).run Tryd.prog W = .ok (.string ⟨#[]⟩) W := fun W => by kernel_rfl
  have hSD : ∀ W, (Builtin.unsafeSliceData_ #[57] 72 #[.slice none 0 0]).run Tryd.prog W = .ok (.pointer none) W := fun W => rfl
  have c1 : w.drew.cell? ⟨B, 1, none⟩ = some (.slice none 0 0) := by rw [cell_of_row w.drew B 1 _ _ _ hbk]; rfl
  have HB : Hid (Below w.heap.size w w.drew) := (Below.refl _ _).drew
  clear hbk
  go_enter Tryd.func25, Tryd.ntmps25
  go_wp2_with fail
  go_region
  go_wp2
  go_ret
  exact ⟨rfl, HB.out⟩
end Go.Proofs.YtpmfdpkcnldpiaaDoor
/- plain facts on CRC-32C: bit by bit, by half bytes, and that a change of up to four neighbouring bytes is noticed -/
namespace Go.Proofs.YtpmfdpkcnldpiaaDoor
namespace Crc

def poly : BitVec 32 := 0x82F63B78#32
/-- one bit of the division -/
def bit1 (c : BitVec 32) : BitVec 32 := (c >>> 1) ^^^ (if c.getLsbD 0 then poly else 0#32)
def bitN : Nat → BitVec 32 → BitVec 32
  | 0, c => c
  | k + 1, c => bitN k (bit1 c)

theorem bit1_xor (a b : BitVec 32) : bit1 (a ^^^ b) = bit1 a ^^^ bit1 b := by
  unfold bit1
  rw [BitVec.ushiftRight_xor_distrib, BitVec.getLsbD_xor]
  generalize a >>> 1 = x
  generalize b >>> 1 = y
  have e : (x ^^^ poly) ^^^ (y ^^^ poly) = x ^^^ y := by
    have : (x ^^^ poly) ^^^ (y ^^^ poly) = (x ^^^ y) ^^^ (poly ^^^ poly) := by ac_rfl
    rw [this, BitVec.xor_self, BitVec.xor_zero]
  cases a.getLsbD 0 <;> cases b.getLsbD 0 <;> simp only [Bool.xor_false, Bool.xor_true, Bool.not_false, Bool.not_true, if_true, if_false, Bool.false_eq_true, BitVec.xor_zero]
  · ac_rfl
  · ac_rfl
  · exact e.symm

theorem bitN_xor (k : Nat) : ∀ a b : BitVec 32, bitN k (a ^^^ b) = bitN k a ^^^ bitN k b := by
  induction k with
  | zero => intro a b; rfl
  | succ k ih => intro a b; simp only [bitN, bit1_xor, ih]

theorem bit1_zero : bit1 0#32 = 0#32 := by decide
theorem bitN_zero (k : Nat) : bitN k 0#32 = 0#32 := by
  induction k with
  | zero => rfl
  | succ k ih => simp only [bitN, bit1_zero, ih]

theorem bitN_add (j k : Nat) : ∀ c, bitN (j + k) c = bitN k (bitN j c) := by
  induction j with
  | zero => intro c; simp [bitN]
  | succ j ih => intro c; rw [show j + 1 + k = (j + k) + 1 from by omega]; simp only [bitN, ih]

/-- a step loses nothing: only zero becomes zero -/
theorem bit1_eq_zero {c : BitVec 32} (h : bit1 c = 0#32) : c = 0#32 := by
  have hmsb : (c >>> 1).getLsbD 31 = false := by simp
  cases h0 : c.getLsbD 0 with
  | true =>
    unfold bit1 at h
    rw [h0] at h
    simp only [if_true] at h
    have h2 : c >>> 1 = poly := by
      have := congrArg (· ^^^ poly) h
      simpa [BitVec.xor_assoc] using this
    rw [h2] at hmsb
    exact absurd hmsb (by decide)
  | false =>
    unfold bit1 at h
    rw [h0] at h
    simp only [Bool.false_eq_true, if_false, BitVec.xor_zero] at h
    apply BitVec.eq_of_getLsbD_eq
    intro i hi
    cases i with
    | zero => simpa using h0
    | succ i =>
      have := congrArg (fun x => x.getLsbD i) h
      simpa [Nat.add_comm] using this
theorem bitN_eq_zero (k : Nat) : ∀ {c : BitVec 32}, bitN k c = 0#32 → c = 0#32 := by
  induction k with
  | zero => intro c h; exact h
  | succ k ih => intro c h; exact bit1_eq_zero (ih h)

/-- while only zeros leave at the low end, a step is a shift -/
theorem bitN_shift (k : Nat) : ∀ c : BitVec 32, (∀ i, i < k → c.getLsbD i = false) → bitN k c = c >>> k := by
  induction k with
  | zero => intro c _; simp [bitN]
  | succ k ih =>
    intro c h
    have h0 : bit1 c = c >>> 1 := by unfold bit1; rw [h 0 (by omega)]; simp
    simp only [bitN, h0]
    rw [ih]
    · rw [← BitVec.shiftRight_add, Nat.add_comm]
    · intro i hi
      have := h (i + 1) (by omega)
      simpa [Nat.add_comm] using this

/-- the remainders of the half bytes -/
def tab : List Nat := [0, 274646895, 549293790, 820201905, 1098587580, 1361435347, 1640403810, 1905808397, 2197175160, 2460548119, 2722870694, 2987750089, 3280807620, 3553878443, 3811616794, 4084100981]
def tabv (i : Nat) : BitVec 32 := BitVec.ofNat 32 (tab.getD i 0)
def low4 (c : BitVec 32) : Nat := (c &&& 15#32).toNat
def by32 (b : UInt8) : BitVec 32 := BitVec.ofNat 32 b.toNat
theorem low4_lt (c : BitVec 32) : low4 c < 16 := by
  unfold low4
  rw [BitVec.toNat_and]
  exact Nat.lt_of_le_of_lt Nat.and_le_right (by decide)
def half (c : BitVec 32) : BitVec 32 := (c >>> 4) ^^^ tabv (low4 c)
theorem tab_right : ∀ i : Fin 16, bitN 4 (BitVec.ofNat 32 i.val) = BitVec.ofNat 32 (tab.getD i.val 0) := by decide +kernel
theorem half_eq (c : BitVec 32) : half c = bitN 4 c := by
  have hs : c = (c &&& 0xFFFFFFF0#32) ^^^ (c &&& 15#32) := by
    apply BitVec.eq_of_getLsbD_eq
    intro i hi
    simp only [BitVec.getLsbD_xor, BitVec.getLsbD_and]
    have hm : ∀ j : Fin 32, ((0xFFFFFFF0#32).getLsbD j.val ^^ (15#32).getLsbD j.val) = true := by decide
    have := hm ⟨i, hi⟩
    simp only at this
    cases h1 : c.getLsbD i <;> cases h2 : (0xFFFFFFF0#32).getLsbD i <;> cases h3 : (15#32).getLsbD i <;> simp_all
  have hl : (c &&& 15#32).toNat < 16 := by
    rw [BitVec.toNat_and]
    exact Nat.lt_of_le_of_lt Nat.and_le_right (by decide)
  have e1 : bitN 4 (c &&& 0xFFFFFFF0#32) = c >>> 4 := by
    rw [bitN_shift]
    · apply BitVec.eq_of_getLsbD_eq
      intro i hi
      simp only [BitVec.getLsbD_ushiftRight, BitVec.getLsbD_and]
      by_cases h : 4 + i < 32
      · have hm : ∀ j : Fin 28, (0xFFFFFFF0#32).getLsbD (4 + j.val) = true := by decide
        have := hm ⟨i, by omega⟩
        simp only at this
        rw [this, Bool.and_true]
      · rw [BitVec.getLsbD_of_ge c _ (by omega)]; rfl
    · intro i hi
      rw [BitVec.getLsbD_and]
      have hm : ∀ j : Fin 4, (0xFFFFFFF0#32).getLsbD j.val = false := by decide
      have := hm ⟨i, hi⟩
      simp only at this
      rw [this, Bool.and_false]
  have e2 : bitN 4 (c &&& 15#32) = BitVec.ofNat 32 (tab.getD (c &&& 15#32).toNat 0) := by
    have := tab_right ⟨(c &&& 15#32).toNat, hl⟩
    simp only at this
    rw [← this]
    congr 1
    rw [BitVec.ofNat_toNat]; simp
  unfold half tabv low4
  rw [← e2]
  conv => rhs; rw [hs, bitN_xor, e1]

/-- one byte -/
def byte1 (c : BitVec 32) (b : UInt8) : BitVec 32 := bitN 8 (c ^^^ BitVec.ofNat 32 b.toNat)
theorem byte1_half (c : BitVec 32) (b : UInt8) : half (half (c ^^^ BitVec.ofNat 32 b.toNat)) = byte1 c b := by
  rw [half_eq, half_eq, ← bitN_add]; rfl
def fold (c : BitVec 32) (l : List UInt8) : BitVec 32 := l.foldl byte1 c
def sum (l : List UInt8) : BitVec 32 := ~~~ (fold 0xFFFFFFFF#32 l)

def zipXor (a b : List UInt8) : List UInt8 := List.zipWith (· ^^^ ·) a b
theorem byte1_xor (c d : BitVec 32) (x y : UInt8) : byte1 (c ^^^ d) (x ^^^ y) = byte1 c x ^^^ byte1 d y := by
  unfold byte1
  rw [← bitN_xor]
  congr 1
  have : BitVec.ofNat 32 (x ^^^ y).toNat = BitVec.ofNat 32 x.toNat ^^^ BitVec.ofNat 32 y.toNat := by
    rw [UInt8.toNat_xor]
    apply BitVec.eq_of_getLsbD_eq
    intro i hi
    simp only [BitVec.getLsbD_xor, BitVec.getLsbD_ofNat, Nat.testBit_xor, hi, decide_true, Bool.true_and]
  rw [this]
  ac_rfl
theorem fold_xor : ∀ (a b : List UInt8), a.length = b.length → ∀ c d, fold (c ^^^ d) (zipXor a b) = fold c a ^^^ fold d b := by
  intro a
  induction a with
  | nil => intro b h c d; cases b with
    | nil => rfl
    | cons y b => simp at h
  | cons x a ih => intro b h c d; cases b with
    | nil => simp at h
    | cons y b =>
      show fold (byte1 (c ^^^ d) (x ^^^ y)) (zipXor a b) = _
      rw [byte1_xor]
      exact ih b (by simpa using h) _ _
theorem take_snoc (s : ByteArray) (k : Nat) (h : k < s.size) : s.data.toList.take (k + 1) = s.data.toList.take k ++ [s[k]] := by
  rw [List.take_succ_eq_append_getElem (by simpa using h)]; rfl
theorem fold_snoc (c : BitVec 32) (l : List UInt8) (b : UInt8) : fold c (l ++ [b]) = byte1 (fold c l) b := by
  unfold fold; rw [List.foldl_append]; rfl
theorem fold_append (c : BitVec 32) (a b : List UInt8) : fold c (a ++ b) = fold (fold c a) b := by
  unfold fold; rw [List.foldl_append]
theorem byte1_zero (c : BitVec 32) : byte1 c 0 = bitN 8 c := by unfold byte1; simp
theorem fold_zeros (n : Nat) : ∀ c, fold c (List.replicate n 0) = bitN (8 * n) c := by
  induction n with
  | zero => intro c; rfl
  | succ n ih =>
    intro c
    show fold (byte1 c 0) (List.replicate n 0) = _
    rw [byte1_zero, ih, show 8 * (n + 1) = 8 + 8 * n from by omega, bitN_add]
/-- zeros, up to four bytes, zeros: nothing is left only if all of them are zero -/
def four (e0 e1 e2 e3 : UInt8) : BitVec 32 := BitVec.ofNat 32 e0.toNat ^^^ (BitVec.ofNat 32 e1.toNat <<< 8) ^^^ (BitVec.ofNat 32 e2.toNat <<< 16) ^^^ (BitVec.ofNat 32 e3.toNat <<< 24)
theorem lsb_byte (e : UInt8) (i : Nat) (h : 8 ≤ i) : (BitVec.ofNat 32 e.toNat).getLsbD i = false := by
  rw [BitVec.getLsbD_ofNat]
  have : e.toNat.testBit i = false := Nat.testBit_lt_two_pow (Nat.lt_of_lt_of_le e.toNat_lt (by exact Nat.pow_le_pow_right (by decide) h))
  rw [this, Bool.and_false]
theorem back (e : UInt8) (k : Nat) (h : k ≤ 24) : bitN k (BitVec.ofNat 32 e.toNat <<< k) = BitVec.ofNat 32 e.toNat := by
  have hb := lsb_byte e
  generalize BitVec.ofNat 32 e.toNat = x at hb ⊢
  rw [bitN_shift]
  · apply BitVec.eq_of_getLsbD_eq
    intro i hi
    rw [BitVec.getLsbD_ushiftRight, BitVec.getLsbD_shiftLeft, Nat.add_sub_cancel_left]
    by_cases h8 : i < 8
    · rw [decide_eq_true (show k + i < 32 by omega), decide_eq_false (show ¬ k + i < k by omega)]; rfl
    · rw [hb i (by omega), Bool.and_false]
  · intro i hi
    rw [BitVec.getLsbD_shiftLeft, decide_eq_true hi]
    simp only [Bool.not_true, Bool.and_false, Bool.false_and]
theorem fold_four (c : BitVec 32) (e0 e1 e2 e3 : UInt8) : fold c [e0, e1, e2, e3] = bitN 32 (c ^^^ four e0 e1 e2 e3) := by
  show bitN 8 (bitN 8 (bitN 8 (bitN 8 (c ^^^ BitVec.ofNat 32 e0.toNat) ^^^ BitVec.ofNat 32 e1.toNat) ^^^ BitVec.ofNat 32 e2.toNat) ^^^ BitVec.ofNat 32 e3.toNat) = _
  conv => lhs; rw [← back e1 8 (by omega), ← bitN_xor, ← bitN_add, ← back e2 16 (by omega), ← bitN_xor, ← bitN_add, ← back e3 24 (by omega), ← bitN_xor, ← bitN_add]
  unfold four
  simp only [BitVec.xor_assoc]
theorem bit_byte (e : UInt8) (i : Nat) (h : i < 32) : (BitVec.ofNat 32 e.toNat).getLsbD i = e.toNat.testBit i := by
  rw [BitVec.getLsbD_ofNat, decide_eq_true h, Bool.true_and]
theorem four_bit (e0 e1 e2 e3 : UInt8) (i : Nat) (h : i < 32) : (four e0 e1 e2 e3).getLsbD i = (e0.toNat.testBit i ^^ (!decide (i < 8) && e1.toNat.testBit (i - 8)) ^^ (!decide (i < 16) && e2.toNat.testBit (i - 16)) ^^ (!decide (i < 24) && e3.toNat.testBit (i - 24))) := by
  unfold four
  rw [BitVec.getLsbD_xor, BitVec.getLsbD_xor, BitVec.getLsbD_xor, BitVec.getLsbD_shiftLeft, BitVec.getLsbD_shiftLeft, BitVec.getLsbD_shiftLeft, bit_byte _ _ h, bit_byte _ _ (by omega), bit_byte _ _ (by omega), bit_byte _ _ (by omega)]
  simp only [h, decide_true, Bool.true_and]
theorem high (e : UInt8) (i : Nat) (h : 8 ≤ i) : e.toNat.testBit i = false :=
  Nat.testBit_lt_two_pow (Nat.lt_of_lt_of_le e.toNat_lt (Nat.pow_le_pow_right (by decide) h))
theorem byte_zero (e : UInt8) (h : ∀ i, i < 8 → e.toNat.testBit i = false) : e = 0 := by
  apply UInt8.toNat_inj.1
  apply Nat.eq_of_testBit_eq
  intro i
  rw [show (0 : UInt8).toNat = 0 from rfl, Nat.zero_testBit]
  by_cases hi : i < 8
  · exact h i hi
  · exact high e i (by omega)
theorem four_eq_zero {e0 e1 e2 e3 : UInt8} (h : four e0 e1 e2 e3 = 0#32) : e0 = 0 ∧ e1 = 0 ∧ e2 = 0 ∧ e3 = 0 := by
  have bit : ∀ i, i < 32 → (e0.toNat.testBit i ^^ (!decide (i < 8) && e1.toNat.testBit (i - 8)) ^^ (!decide (i < 16) && e2.toNat.testBit (i - 16)) ^^ (!decide (i < 24) && e3.toNat.testBit (i - 24))) = false := by
    intro i hi; rw [← four_bit _ _ _ _ _ hi, h, BitVec.getLsbD_zero]
  refine ⟨byte_zero _ fun i hi => ?_, byte_zero _ fun i hi => ?_, byte_zero _ fun i hi => ?_, byte_zero _ fun i hi => ?_⟩
  · have := bit i (by omega)
    simpa only [hi, show i < 16 by omega, show i < 24 by omega, decide_true, Bool.not_true, Bool.false_and, Bool.xor_false] using this
  · have := bit (8 + i) (by omega)
    simpa only [high e0 (8 + i) (by omega), show ¬ 8 + i < 8 by omega, show 8 + i < 16 by omega, show 8 + i < 24 by omega, decide_true, decide_false, Bool.not_true, Bool.not_false, Bool.true_and, Bool.false_and, Bool.xor_false, Bool.false_xor, show 8 + i - 8 = i by omega] using this
  · have := bit (16 + i) (by omega)
    simpa only [high e0 (16 + i) (by omega), show 16 + i - 8 = 8 + i by omega, high e1 (8 + i) (by omega), show ¬ 16 + i < 16 by omega, show 16 + i < 24 by omega, decide_true, decide_false, Bool.not_true, Bool.not_false, Bool.true_and, Bool.false_and, Bool.and_false, Bool.xor_false, Bool.false_xor, show 16 + i - 16 = i by omega] using this
  · have := bit (24 + i) (by omega)
    simpa only [high e0 (24 + i) (by omega), show 24 + i - 8 = 16 + i by omega, high e1 (16 + i) (by omega), show 24 + i - 16 = 8 + i by omega, high e2 (8 + i) (by omega), show ¬ 24 + i < 24 by omega, decide_true, decide_false, Bool.not_true, Bool.not_false, Bool.true_and, Bool.false_and, Bool.and_false, Bool.xor_false, Bool.false_xor, show 24 + i - 24 = i by omega] using this
theorem fold_zeros_zero (n : Nat) : fold 0#32 (List.replicate n 0) = 0#32 := by rw [fold_zeros, bitN_zero]
theorem burst4 (m n : Nat) (e0 e1 e2 e3 : UInt8) (h : fold 0#32 (List.replicate m 0 ++ ([e0, e1, e2, e3] ++ List.replicate n 0)) = 0#32) : e0 = 0 ∧ e1 = 0 ∧ e2 = 0 ∧ e3 = 0 := by
  rw [fold_append, fold_append, fold_zeros_zero, fold_four, fold_zeros, BitVec.zero_xor] at h
  exact four_eq_zero (bitN_eq_zero _ (bitN_eq_zero _ h))
/-- zeros, at most four bytes, zeros: nothing is left only if all bytes are zero -/
theorem burst (m n : Nat) (l : List UInt8) (hl : l.length ≤ 4) (h : fold 0#32 (List.replicate m 0 ++ (l ++ List.replicate n 0)) = 0#32) : ∀ x ∈ l, x = 0 := by
  have h' : fold 0#32 (List.replicate m 0 ++ ((l ++ List.replicate (4 - l.length) 0) ++ List.replicate n 0)) = 0#32 := by
    have e : List.replicate m 0 ++ ((l ++ List.replicate (4 - l.length) 0) ++ List.replicate n (0 : UInt8)) = (List.replicate m 0 ++ (l ++ List.replicate n 0)) ++ List.replicate (4 - l.length) 0 := by
      rw [List.append_assoc, List.append_assoc, List.append_assoc, List.replicate_append_replicate, List.replicate_append_replicate, Nat.add_comm]
    rw [e, fold_append, h, fold_zeros_zero]
  match l, hl with
  | [], _ => intro x hx; cases hx
  | [a], _ =>
    obtain ⟨ha, _⟩ := burst4 m n a 0 0 0 h'
    intro x hx; simp only [List.mem_cons, List.not_mem_nil, or_false] at hx; rw [hx, ha]
  | [a, b], _ =>
    obtain ⟨ha, hb, _⟩ := burst4 m n a b 0 0 h'
    intro x hx; simp only [List.mem_cons, List.not_mem_nil, or_false] at hx; rcases hx with hx | hx <;> rw [hx] <;> assumption
  | [a, b, c], _ =>
    obtain ⟨ha, hb, hc, _⟩ := burst4 m n a b c 0 h'
    intro x hx; simp only [List.mem_cons, List.not_mem_nil, or_false] at hx; rcases hx with hx | hx | hx <;> rw [hx] <;> assumption
  | [a, b, c, d], _ =>
    obtain ⟨ha, hb, hc, hd⟩ := burst4 m n a b c d h'
    intro x hx; simp only [List.mem_cons, List.not_mem_nil, or_false] at hx; rcases hx with hx | hx | hx | hx <;> rw [hx] <;> assumption
/-- two texts of one length that differ in at most four neighbouring bytes have one sum only if they are equal -/
theorem sum_inj (p q a b : List UInt8) (hl : a.length = b.length) (h4 : a.length ≤ 4) (h : sum (p ++ (a ++ q)) = sum (p ++ (b ++ q))) : a = b := by
  have hf : fold 0xFFFFFFFF#32 (p ++ (a ++ q)) = fold 0xFFFFFFFF#32 (p ++ (b ++ q)) := by
    have := congrArg (fun x => ~~~ x) h
    simpa only [sum, BitVec.not_not] using this
  have hx := fold_xor (p ++ (a ++ q)) (p ++ (b ++ q)) (by simp [hl]) 0xFFFFFFFF#32 0xFFFFFFFF#32
  rw [hf, BitVec.xor_self, BitVec.xor_self] at hx
  have self : ∀ l : List UInt8, zipXor l l = List.replicate l.length 0 := by
    intro l
    induction l with
    | nil => rfl
    | cons x l ih => show (x ^^^ x) :: zipXor l l = _; rw [ih, UInt8.xor_self]; rfl
  have split : zipXor (p ++ (a ++ q)) (p ++ (b ++ q)) = List.replicate p.length 0 ++ (zipXor a b ++ List.replicate q.length 0) := by
    unfold zipXor
    rw [List.zipWith_append (by rfl), List.zipWith_append hl]
    rw [← self p, ← self q]; rfl
  rw [split] at hx
  have hz := burst p.length q.length (zipXor a b) (by unfold zipXor; rw [List.length_zipWith]; omega) hx
  clear hx split self hf h h4
  induction a generalizing b with
  | nil => cases b with
    | nil => rfl
    | cons y b => simp at hl
  | cons x a ih => cases b with
    | nil => simp at hl
    | cons y b =>
      have h0 : x ^^^ y = 0 := hz (x ^^^ y) (by simp [zipXor])
      have : x = y := by simpa using UInt8.xor_eq_zero_iff.1 h0
      rw [this, ih b (by simpa using hl) (fun z hz' => hz z (by simp only [zipXor, List.zipWith_cons_cons, List.mem_cons]; exact Or.inr hz'))]

end Crc
end Go.Proofs.YtpmfdpkcnldpiaaDoor
/- operations on 32 bits, in the words of the walk -/
namespace Go.Proofs.YtpmfdpkcnldpiaaDoor
open Go.RowKit

theorem bx (a b : BitVec 32) : bits .xor .u32 (a.toNat : Int) (b.toNat : Int) = ((a ^^^ b).toNat : Int) := by
  rw [u32_xor_nat _ _ a.isLt b.isLt, BitVec.toNat_xor]
theorem ba (a : BitVec 32) : bits .and .u32 (a.toNat : Int) 15 = (Crc.low4 a : Int) := by
  have := u32_and_nat a.toNat 15 a.isLt (by decide)
  rw [show ((15 : Nat) : Int) = 15 from rfl] at this
  rw [this]; unfold Crc.low4; rw [BitVec.toNat_and]; rfl
theorem bs (a : BitVec 32) : (a.toNat : Int) / 16 = ((a >>> 4).toNat : Int) := by
  rw [BitVec.toNat_ushiftRight, Nat.shiftRight_eq_div_pow]; simp
theorem bb (b : UInt8) : (b.toNat : Int) % 4294967296 = ((Crc.by32 b).toNat : Int) := by
  unfold Crc.by32
  rw [BitVec.toNat_ofNat]
  omega
theorem bn (a : BitVec 32) : bits .xor .u32 IntKind.u32.max (a.toNat : Int) = ((~~~ a).toNat : Int) := by
  have e : IntKind.u32.max = ((0xFFFFFFFF#32).toNat : Int) := by decide
  rw [e, bx, show (0xFFFFFFFF#32) = BitVec.allOnes 32 from by decide, BitVec.allOnes_xor]
theorem ret_u32 {a b : Int} (h : a = b) : Ending.returned (.int .u32 a) = .returned (.int .u32 b) := by rw [h]
/-- one bit, as the reference takes it -/
theorem bit_facts (X : BitVec 32) : ∃ (L : Nat) (Y Z : BitVec 32), bits .and .u32 (X.toNat : Int) 1 = (L : Int) ∧ (X.toNat : Int) / 2 = (Y.toNat : Int) ∧ bits .xor .u32 (Y.toNat : Int) 2197175160 = (Z.toNat : Int) ∧
    ((L = 1 ∧ Crc.bit1 X = Z) ∨ (L = 0 ∧ Crc.bit1 X = Y)) := by
  refine ⟨X.toNat % 2, X >>> 1, (X >>> 1) ^^^ Crc.poly, ?_, ?_, ?_, ?_⟩
  · have := u32_and_nat X.toNat 1 X.isLt (by decide)
    rw [show ((1 : Nat) : Int) = 1 from rfl] at this
    rw [this, Nat.and_one_is_mod]
  · rw [BitVec.toNat_ushiftRight, Nat.shiftRight_eq_div_pow]; simp
  · have := bx (X >>> 1) Crc.poly
    rw [show ((Crc.poly.toNat : Nat) : Int) = 2197175160 from by decide] at this
    exact this
  · have hb : X.getLsbD 0 = decide (X.toNat % 2 = 1) := by
      rw [BitVec.getLsbD, Nat.testBit_zero]
    unfold Crc.bit1
    rw [hb]
    by_cases h : X.toNat % 2 = 1
    · left; rw [decide_eq_true h]; exact ⟨h, rfl⟩
    · right; rw [decide_eq_false h]; exact ⟨by omega, by simp⟩
end Go.Proofs.YtpmfdpkcnldpiaaDoor
/- the walk of the checksum of the program: CRC-32C of the bytes -/
namespace Go.Proofs.YtpmfdpkcnldpiaaDoor
open Go.RowKit


/-- the table of the half bytes lies where the package variable is -/
def TabAt (w : World) : Prop := ∀ i, i < 16 → w.cell? ⟨0, i, none⟩ = some (.int .u32 ((Crc.tabv i).toNat : Int))
/-- what one half byte does, said of plain numbers -/
theorem half_facts (w : World) (ht : TabAt w) (X : BitVec 32) : ∃ (Y T : BitVec 32) (L : Nat), (X.toNat : Int) / 16 = (Y.toNat : Int) ∧ bits .and .u32 (X.toNat : Int) 15 = (L : Int) ∧ L < 16 ∧
    w.cell? ⟨0, L, none⟩ = some (.int .u32 (T.toNat : Int)) ∧ bits .xor .u32 (Y.toNat : Int) (T.toNat : Int) = ((Crc.half X).toNat : Int) :=
  ⟨X >>> 4, Crc.tabv (Crc.low4 X), Crc.low4 X, bs X, ba X, Crc.low4_lt X, ht _ (Crc.low4_lt X), bx _ _⟩
set_option maxHeartbeats 400000 in
theorem sum_any (s : ByteArray) (w : World) (hs : s.size ≤ maxLen) (ht : TabAt w) :
    Calls Tryd.prog 38 #[.string s] w fun e w' => e = .returned (.int .u32 ((Crc.sum s.data.toList).toNat : Int)) ∧ w = w' := by
  unfold maxLen at hs
  have HT := Lib.hid ht
  clear ht
  go_enter Tryd.func38, Tryd.ntmps38
  go_wp2
  go_loop [3, 7] (fun c i => ∃ k : Nat, k ≤ s.size ∧ i = .int .i64 k ∧ c = .int .u32 ((Crc.fold 0xFFFFFFFF#32 (s.data.toList.take k)).toNat : Int)) (fun _ i => s.size - (intOf i).toNat)
  case atStart => exact ⟨0, Nat.zero_le _, rfl, rfl⟩
  case round =>
    obtain ⟨k, hk, rfl, rfl⟩ := hrel
    by_cases hlt : k < s.size
    · have HF : Hid (Crc.fold 0xFFFFFFFF#32 (s.data.toList.take (k + 1)) = Crc.half (Crc.half (Crc.fold 0xFFFFFFFF#32 (s.data.toList.take k) ^^^ Crc.by32 s[k]))) := by
        show _ = _
        rw [Crc.take_snoc s k hlt, Crc.fold_snoc, ← Crc.byte1_half]; rfl
      generalize Crc.fold 0xFFFFFFFF#32 (s.data.toList.take k) = F at HF ⊢
      have e1 := bb s[k]
      have e2 := bx F (Crc.by32 s[k])
      obtain ⟨Y0, T0, L0, y0, a0, l0, c0, x0⟩ := half_facts w HT.out (F ^^^ Crc.by32 s[k])
      obtain ⟨Y1, T1, L1, y1, a1, l1, c1, x1⟩ := half_facts w HT.out (Crc.half (F ^^^ Crc.by32 s[k]))
      generalize Crc.half (Crc.half (F ^^^ Crc.by32 s[k])) = X2 at *
      generalize Crc.half (F ^^^ Crc.by32 s[k]) = X1 at *
      generalize F ^^^ Crc.by32 s[k] = X0 at *
      generalize Crc.by32 s[k] = B at *
      go_wp2
      go_round
      case rel => exact ⟨k + 1, by omega, by go_num, by rw [HF.out]⟩
      case measure => simp [intOf]; omega
    · have hkk : s.data.toList.take k = s.data.toList := List.take_of_length_le (by simp; omega)
      have HK := Lib.hid hkk
      clear hkk
      go_wp2
      go_ret
      exact ⟨ret_u32 (by rw [bn, HK.out]; rfl), rfl⟩

theorem TabAt.below {w w' : World} (h : TabAt w) (hb : Below w.heap.size w w') : TabAt w' := by
  intro i hi
  have hc := h i hi
  rw [hb.cell (p := ⟨0, i, none⟩)]
  · exact hc
  · by_cases hlt : 0 < w.heap.size
    · exact hlt
    · exfalso
      have h0 := Array.getElem?_eq_none (xs := w.heap) (i := 0) (Nat.le_of_not_lt hlt)
      simp [World.cell?, h0] at hc
end Go.Proofs.YtpmfdpkcnldpiaaDoor
