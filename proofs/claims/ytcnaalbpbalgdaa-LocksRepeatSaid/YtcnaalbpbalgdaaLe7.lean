/- texts of a claim, one after the other: the choices of the drawing package: Locks, the sanity check of the laws of chapter 8, within a drawing function: what reads is appended to a slice of its own, transactions that ask for one lock get it in the order in which they asked; a table that is nearly full, what a walk keeps of memory, beside how many choices are left at most, choices are drawn, and what comes of them is read -/
import Derived.Test.YtcnaalbpbalgdaaLe1
import Derived.Test.YtcnaalbpbalgdaaLe6
import Derived.Test.YtcnaalbpbalgdaaLe3
import Derived.Deep.CutBlock
import Derived.Test.YtcnaalbpbalgdaaLe2
/- the choices of the drawing package: Locks -/
namespace Go.Proofs.Ytcnaalbpbalgdaa
open Go.RowKit
open Go.Act renaming put → z0
open List renaming setIfInBounds_toArray → z1, set_cons_zero → z2, set_cons_succ → z3
set_option maxRecDepth 20000
set_option linter.unusedSimpArgs false
set_option linter.unusedVariables false

theorem tb_as {f : FuncId} {args : Array Value} {w w1 : World} {R : List Rng} {x y : Tb} (h : x = y) (c : Calls Try.prog f args w (TbPost w1 R x)) : Calls Try.prog f args w (TbPost w1 R y) := h ▸ c
theorem tb3_as {f : FuncId} {args : Array Value} {w w1 : World} {R : List Rng} {x y : Tb × Bool × Int} (h : x = y) (c : Calls Try.prog f args w (TbPost3 w1 R x)) : Calls Try.prog f args w (TbPost3 w1 R y) := h ▸ c
def LocksPost (C : Nat) (w : World) (e : Ending) (w' : World) : Prop := ∃ (t : Tb) (h v : Value) (R : List Rng), e = .returned (.agg (tbCells h v).toArray) ∧ Settled t ∧ tbLen t ≤ 13 ∧ TbRd h v t R ∧ RdIn w' R ∧ (∀ r ∈ R, w.heap.size ≤ r.1) ∧ Besides C w w' ∧ CodesOk w' C
abbrev qDrLk_0 : Oper := { dst := some 30, op := Op.move (Operand.tmp 0), type := 31, pos := "draw.go:248", after := #[], guard := none }
abbrev qDrLk_1 : Oper := { dst := some 29, op := Op.load 25 (Operand.tmp 3), type := 25, pos := "draw.go:248", after := #[], guard := none }
abbrev qDrLk_2 : Oper := { dst := some 31, op := Op.call { callee := Callee.value (Operand.func 16), args := #[Operand.tmp 30, Operand.const (Value.int IntKind.i64 5)], argTypes := #[31, 3] }, type := 3, pos := "draw.go:248", after := #[{ on := 1, ground := Ground.data }], guard := none }
abbrev qDrLk_3 : Oper := { dst := some 32, op := Op.binOp BinOp.add 3 (Operand.const (Value.int IntKind.i64 1)) (Operand.tmp 31) 3, type := 3, pos := "draw.go:248", after := #[{ on := 2, ground := Ground.data }], guard := none }
abbrev qDrLk_4 : Oper := { dst := some 33, op := Op.call { callee := Callee.value (Operand.func 29), args := #[Operand.tmp 29, Operand.tmp 32], argTypes := #[25, 3] }, type := 25, pos := "draw.go:248", after := #[{ on := 0, ground := Ground.data }, { on := 3, ground := Ground.data }, { on := 2, ground := Ground.chain }], guard := none }
abbrev qDrLk_5 : Oper := { dst := none, op := Op.store 25 (Operand.tmp 3) (Operand.tmp 33), type := 0, pos := "draw.go:248", after := #[{ on := 4, ground := Ground.data }, { on := 4, ground := Ground.chain }, { on := 0, ground := Ground.phase }, { on := 1, ground := Ground.phase }, { on := 2, ground := Ground.phase }, { on := 3, ground := Ground.phase }, { on := 4, ground := Ground.phase }], guard := none }
abbrev qDrLk_6 : Oper := { dst := some 37, op := Op.move (Operand.tmp 0), type := 31, pos := "draw.go:250", after := #[], guard := none }
abbrev qDrLk_7 : Oper := { dst := some 36, op := Op.load 25 (Operand.tmp 3), type := 25, pos := "draw.go:250", after := #[], guard := none }
abbrev qDrLk_8 : Oper := { dst := some 38, op := Op.call { callee := Callee.value (Operand.func 16), args := #[Operand.tmp 37, Operand.const (Value.int IntKind.i64 5)], argTypes := #[31, 3] }, type := 3, pos := "draw.go:250", after := #[{ on := 1, ground := Ground.data }], guard := none }
abbrev qDrLk_9 : Oper := { dst := some 39, op := Op.binOp BinOp.add 3 (Operand.const (Value.int IntKind.i64 1)) (Operand.tmp 38) 3, type := 3, pos := "draw.go:250", after := #[{ on := 2, ground := Ground.data }], guard := none }
abbrev qDrLk_10 : Oper := { dst := some 40, op := Op.call { callee := Callee.value (Operand.func 27), args := #[Operand.tmp 36, Operand.tmp 39], argTypes := #[25, 3] }, type := 25, pos := "draw.go:250", after := #[{ on := 0, ground := Ground.data }, { on := 3, ground := Ground.data }, { on := 2, ground := Ground.chain }], guard := none }
abbrev qDrLk_11 : Oper := { dst := none, op := Op.store 25 (Operand.tmp 3) (Operand.tmp 40), type := 0, pos := "draw.go:250", after := #[{ on := 4, ground := Ground.data }, { on := 4, ground := Ground.chain }, { on := 0, ground := Ground.phase }, { on := 1, ground := Ground.phase }, { on := 2, ground := Ground.phase }, { on := 3, ground := Ground.phase }, { on := 4, ground := Ground.phase }], guard := none }
abbrev qDrLk_12 : Oper := { dst := some 18, op := Op.move (Operand.tmp 0), type := 31, pos := "draw.go:252", after := #[], guard := none }
abbrev qDrLk_13 : Oper := { dst := some 17, op := Op.load 25 (Operand.tmp 3), type := 25, pos := "draw.go:252", after := #[], guard := none }
abbrev qDrLk_14 : Oper := { dst := some 19, op := Op.call { callee := Callee.value (Operand.func 14), args := #[Operand.tmp 18], argTypes := #[31] }, type := 29, pos := "draw.go:252", after := #[{ on := 1, ground := Ground.data }], guard := none }
abbrev qDrLk_15 : Oper := { dst := some 5, op := Op.alloc 25, type := 0, pos := "draw.go:252", after := #[], guard := none }
abbrev qDrLk_16 : Oper := { dst := some 20, op := Op.call { callee := Callee.value (Operand.func 18), args := #[Operand.tmp 17, Operand.tmp 19], argTypes := #[25, 29] }, type := 41, pos := "draw.go:252", after := #[{ on := 0, ground := Ground.data }, { on := 2, ground := Ground.data }, { on := 2, ground := Ground.chain }], guard := none }
abbrev qDrLk_17 : Oper := { dst := some 16, op := Op.move (Operand.tmp 20), type := 41, pos := "draw.go:252", after := #[{ on := 3, ground := Ground.data }], guard := none }
abbrev qDrLk_18 : Oper := { dst := some 21, op := Op.extract (Operand.tmp 16) 0, type := 25, pos := "draw.go:252", after := #[{ on := 4, ground := Ground.data }], guard := none }
abbrev qDrLk_19 : Oper := { dst := some 22, op := Op.extract (Operand.tmp 16) 1, type := 4, pos := "draw.go:252", after := #[{ on := 4, ground := Ground.data }, { on := 9, ground := Ground.gcOnly Departure.lateStores }], guard := none }
abbrev qDrLk_20 : Oper := { dst := some 23, op := Op.extract (Operand.tmp 16) 2, type := 40, pos := "draw.go:252", after := #[{ on := 4, ground := Ground.data }, { on := 10, ground := Ground.gcOnly Departure.lateStores }], guard := none }
abbrev qDrLk_21 : Oper := { dst := none, op := Op.store 25 (Operand.tmp 5) (Operand.tmp 21), type := 0, pos := "draw.go:252", after := #[{ on := 8, ground := Ground.data }, { on := 5, ground := Ground.data }, { on := 3, ground := Ground.chain }, { on := 0, ground := Ground.phase }, { on := 1, ground := Ground.phase }, { on := 2, ground := Ground.phase }, { on := 3, ground := Ground.phase }, { on := 4, ground := Ground.phase }, { on := 5, ground := Ground.phase }, { on := 6, ground := Ground.textOnly Departure.lateStores }, { on := 7, ground := Ground.textOnly Departure.lateStores }, { on := 8, ground := Ground.phase }], guard := none }
abbrev qDrLk_22 : Oper := { dst := some 6, op := Op.assign (Operand.tmp 22), type := 4, pos := "draw.go:252", after := #[{ on := 6, ground := Ground.data }, { on := 9, ground := Ground.chain }, { on := 0, ground := Ground.phase }, { on := 1, ground := Ground.phase }, { on := 2, ground := Ground.phase }, { on := 3, ground := Ground.phase }, { on := 4, ground := Ground.phase }, { on := 5, ground := Ground.phase }, { on := 6, ground := Ground.phase }, { on := 7, ground := Ground.textOnly Departure.lateStores }, { on := 8, ground := Ground.phase }, { on := 9, ground := Ground.phase }], guard := none }
abbrev qDrLk_23 : Oper := { dst := some 7, op := Op.assign (Operand.tmp 23), type := 40, pos := "draw.go:252", after := #[{ on := 7, ground := Ground.data }, { on := 10, ground := Ground.chain }, { on := 0, ground := Ground.phase }, { on := 1, ground := Ground.phase }, { on := 2, ground := Ground.phase }, { on := 3, ground := Ground.phase }, { on := 4, ground := Ground.phase }, { on := 5, ground := Ground.phase }, { on := 6, ground := Ground.phase }, { on := 7, ground := Ground.phase }, { on := 8, ground := Ground.phase }, { on := 9, ground := Ground.phase }, { on := 10, ground := Ground.phase }], guard := none }
set_option maxHeartbeats 16000000 in
theorem locks_any (C : Nat) (w : World) (h : CodesOk w C) :
  Calls Try.prog 10 #[.pointer (some ⟨C, 0, none⟩)] w (LocksPost C w) := by
 obtain ⟨fsHUG, huHUG⟩ := under_gr
 have HUG := Lib.hid huHUG
 clear huHUG
 obtain ⟨fsHUK, huHUK⟩ := under_lk
 have HUK := Lib.hid huHUK
 clear huHUK
 obtain ⟨fsHUT, huHUT⟩ := under_tb
 have HUT := Lib.hid huHUT
 clear huHUT
 have h1 := (((DrH.start h).put 25 (tbCells (.slice none 0 0) (.slice none 0 0))).put 25 (tbCells (.slice none 0 0) (.slice none 0 0))).addrd (Below.refl _ _) [] (RdIn.nil _) (by simp)
 simp only [World.size_alloc, List.nil_append, List.cons_append] at h1
 have HS0 : Hid (DrH w C [.ob w.heap.size 25 (tbCells (.slice none 0 0) (.slice none 0 0)), .ob (w.heap.size + 1) 25 (tbCells (.slice none 0 0) (.slice none 0 0)), .rd []] ((w.alloc (.cells #[.slice none 0 0, .slice none 0 0] 25)).alloc (.cells #[.slice none 0 0, .slice none 0 0] 25))) := h1
 clear h h1
 go_enter Try.func10, Try.ntmps10
 go_upto_region 2 with (fail)
 generalize ((w.alloc (.cells #[.slice none 0 0, .slice none 0 0] 25)).alloc (.cells #[.slice none 0 0, .slice none 0 0] 25)) = w1 at *
 generalize w.heap.size = b2 at HS0 ⊢
 generalize b2 + 1 = b3 at *
 go_wp2_with fail
 refine (next_any C 14 _ HS0.out.codes (by omega)).mono ?_
 rintro e w2 ⟨kn, rfl, k0, k1, hb, hc⟩
 have HS1 := Lib.hid (HS0.out.draws hb hc)
 clear hb hc HS0
 have hk5 : kn ≤ 13 := by omega
 go_wp2_with fail
 go_loopw [4] (fun si wr => ∃ (t : Tb) (a a2 : Option Addr) (cap cap2 : Nat) (R : List Rng) (i : Int), si = .int .i64 i ∧ 0 ≤ i ∧ (tbLen t : Int) + i ≤ 13 ∧ Settled t ∧ TbRd (.slice a t.held.length cap) (.slice a2 t.wait.length cap2) t R ∧ DrH w C [.ob b2 25 (tbCells (.slice none 0 0) (.slice none 0 0)), .ob b3 25 (tbCells (.slice a t.held.length cap) (.slice a2 t.wait.length cap2)), .rd R] wr) (fun si _ => (intOf si).toNat)
 case atStart => exact ⟨tbNil, none, none, 0, 0, [], kn, rfl, k0, by show ((0 : Nat) : Int) + kn ≤ 13; omega, tbNil_settled, TbRd.nil _, HS1.out⟩
 case round =>
  clear HS1 k0 k1 hk5
  obtain ⟨t, a, a2, cap, cap2, R, i, rfl, hi0, hi13, hst, hrd, hs⟩ := hrel
  have HSt := Lib.hid hst
  have HRd := Lib.hid hrd
  have HY := Lib.hid hs
  have HI := Lib.hid (And.intro hi0 hi13)
  clear hst hrd hs
  by_cases hi : 0 < i
  ·have hiw : IntKind.i64.wrap (i - 1) = i - 1 := IntWalk.i64_in _ (by omega)
   have hiw2 : wrap64 (i - 1) = i - 1 := IntWalk.wrap64_in _ (by omega)
   have hid0 : decide (0 < i) = true := decide_eq_true hi
   have HP := Lib.hid hi
   clear hi0 hi13 hi
   go_wp2_with fail
   refine (next_any C 6 _ HY.out.codes (by omega)).mono ?_
   rintro e w3 ⟨s, rfl, s0, s1, hb, hc⟩
   have HY2 := Lib.hid (HY.out.draws hb hc)
   clear hb hc HY
   by_cases hs4 : s = 4
   ·obtain ⟨e1, n1⟩ := eq_facts hs4
    clear hs4 s0 s1
    have HU : Hid (∀ n, ∃ u, releaseR t (1 + n) = u ∧ Settled u ∧ tbLen u ≤ tbLen t) := Lib.hid (fun n => ⟨_, rfl, release_ok HSt.out.ok (1 + n)⟩)
    go_upto_region 10 with (fail)
    refine wp_region_held_drew (S := fun w' => True) (by kernel_rfl) (trivial) (fun hHeld => ?_)
    refine tk 1 qDrLk_0 (some 30) (v := ?q1v) (Or.inl ⟨by rfl, ?q1h⟩) hHeld ?q1r
    case q1h => (intro wq hSw; clear hSw; go_simp; try with_reducible rfl)
    try simp only [z0, z1, z2, z3]
    refine wpAnyH_ready (rs := [0, 2]) (by kernel_rfl) (by simp) ?_
    refine AllReadyH.cons (o := qDrLk_1) rfl (fun K hK => ?_) (AllReadyH.cons (o := qDrLk_2) rfl (fun K hK => ?_) (AllReadyH.nil))
    ·rw [if_pos (by rfl)]
     refine wp_load_whole 25 (.tmp 3) b3 (tbCells (.slice a t.held.length cap) (.slice a2 t.wait.length cap2)) 25 HUT.out rfl rfl (((HY2.out).drew).get 1 rfl) rfl (info_tb) ?_
     have HS41 : Hid (DrH w C [.ob b2 25 (tbCells (.slice none 0 0) (.slice none 0 0)), .ob b3 25 (tbCells (.slice a t.held.length cap) (.slice a2 t.wait.length cap2)), .rd R] (w3.drew)) := (HY2.out).drew
     refine hK.out _ _ (trivial) (fun hHeld => ?_)
     clear hK K
     generalize w3.drew = w41 at *
     try simp only [z0, z1, z2, z3]
     refine tn 2 qDrLk_2 (fun K hK => ?_)
     go_simp
     go_wp2_with (go_at_call 16; refine (next_any C 5 _ (HS41.out).codes (by omega)).mono ?_; rintro e w42 ⟨n, rfl, n0, n1, hb, hc⟩)
     have HS42 : Hid (DrH w C [.ob b2 25 (tbCells (.slice none 0 0) (.slice none 0 0)), .ob b3 25 (tbCells (.slice a t.held.length cap) (.slice a2 t.wait.length cap2)), .rd R] w42) := (HS41.out).draws hb hc
     refine hK.out _ _ (trivial) (fun hHeld => ?_)
     clear hK K hb hc
     have hw : IntKind.i64.wrap (1 + n) = 1 + n := IntWalk.i64_in _ (by omega)
     obtain ⟨u, hu, hsu, hlu⟩ := HU.out n
     have HUe := Lib.hid hu
     have HSu := Lib.hid hsu
     have HLu := Lib.hid hlu
     clear hu hsu hlu n0 n1
     try simp only [z0, z1, z2, z3]
     refine tk 3 qDrLk_3 (some 32) (v := ?q2v) (Or.inl ⟨by rfl, ?q2h⟩) hHeld ?q2r
     case q2h => (intro wq hSw; clear hSw; go_simp; try with_reducible rfl)
     try simp only [z0, z1, z2, z3]
     refine tn 4 qDrLk_4 (fun K hK => ?_)
     go_simp
     go_wp2_with (go_at_call 29; refine (tb_as HUe.out (rrelease_any (1 + n) _ HRd.out ((HS42.out).reads 2 rfl) HSt.out.ok.good)).mono ?_; rintro e w43 ⟨h9, v9, R9, rfl, hrd2, hin2, hnew2, hb⟩)
     have hnew3 : ∀ r ∈ R9, w.heap.size ≤ r.1 := fun r hr => by
      rcases hnew2 r hr with h | h
      ·exact Nat.le_trans (HS42.out).bes.size h
      ·exact (HS42.out).off (.rd R) (List.mem_of_getElem? (i := 2) rfl) r.1 h
     obtain ⟨a9, c9, rfl, _, _⟩ := hrd2.1.shape
     obtain ⟨d9, e9, rfl, _, _⟩ := hrd2.2.shape
     have H9 := Lib.hid hrd2
     have HS43 : Hid (DrH w C [.ob b2 25 (tbCells (.slice none 0 0) (.slice none 0 0)), .ob b3 25 (tbCells (.slice a t.held.length cap) (.slice a2 t.wait.length cap2)), .rd R, .rd R9] w43) := (HS42.out).addrd hb R9 hin2 (fun r hr => (hnew2 r hr).elim .inl (fun h => .inr ⟨.rd R, List.mem_of_getElem? (i := 2) rfl, h⟩))
     refine hK.out _ _ (trivial) (fun hHeld => ?_)
     clear hK K hb hin2 hrd2 hnew2 hnew3
     try simp only [z0, z1, z2, z3]
     refine tn 5 qDrLk_5 (fun K hK => ?_)
     rw [if_pos (by rfl)]
     refine wp_store_ob 25 (.tmp 3) (.tmp 33) b3 (tbCells (.slice a9 u.held.length c9) (.slice d9 u.wait.length e9)) (tbCells (.slice a t.held.length cap) (.slice a2 t.wait.length cap2)) 25 rfl rfl rfl rfl ((HS43.out).get 1 rfl) (info_tb) (rfl) ((oneCell_tb _ _ _ _ _ _)) ?_
     have HS44 : Hid (DrH w C [.ob b2 25 (tbCells (.slice none 0 0) (.slice none 0 0)), .ob b3 25 (tbCells (.slice a9 u.held.length c9) (.slice d9 u.wait.length e9)), .rd R, .rd R9] (w43.setRow b3 (tbCells (.slice a9 u.held.length c9) (.slice d9 u.wait.length e9)).toArray)) := (HS43.out).row 1 rfl (tbCells (.slice a9 u.held.length c9) (.slice d9 u.wait.length e9))
     refine hK.out _ _ (trivial) (fun hHeld => ?_)
     clear hK K
     generalize (w43.setRow b3 (tbCells (.slice a9 u.held.length c9) (.slice d9 u.wait.length e9)).toArray) = w44 at *
     try simp only [z0, z1, z2, z3]
     refine wpAnyH_done (by kernel_rfl) ?_ _
     clear hHeld
     have HS45 : Hid (DrH w C [.ob b2 25 (tbCells (.slice none 0 0) (.slice none 0 0)), .ob b3 25 (tbCells (.slice a9 u.held.length c9) (.slice d9 u.wait.length e9)), .rd R9] w44) := HS44.out.pull [0, 1, 3] rfl (pull_nd HS44.out.nd [0, 1, 3] rfl (by decide))
     clear HS44
     go_wp2_with fail
     go_roundw
     case rel => exact ⟨u, a9, d9, c9, e9, R9, i - 1, rfl, by have := HP.out; omega, by have := HI.out; have := HLu.out; omega, HSu.out, H9.out, HS45.out⟩
     case measure => simp [intOf]; have := HP.out; omega
    ·go_simp
     go_wp2_with (go_at_call 16; refine (next_any C 5 _ ((HY2.out).drew).codes (by omega)).mono ?_; rintro e w41 ⟨n, rfl, n0, n1, hb, hc⟩)
     have HS41 : Hid (DrH w C [.ob b2 25 (tbCells (.slice none 0 0) (.slice none 0 0)), .ob b3 25 (tbCells (.slice a t.held.length cap) (.slice a2 t.wait.length cap2)), .rd R] w41) := ((HY2.out).drew).draws hb hc
     refine hK.out _ _ (trivial) (fun hHeld => ?_)
     clear hK K hb hc
     have hw : IntKind.i64.wrap (1 + n) = 1 + n := IntWalk.i64_in _ (by omega)
     obtain ⟨u, hu, hsu, hlu⟩ := HU.out n
     have HUe := Lib.hid hu
     have HSu := Lib.hid hsu
     have HLu := Lib.hid hlu
     clear hu hsu hlu n0 n1
     try simp only [z0, z1, z2, z3]
     refine tk 3 qDrLk_3 (some 32) (v := ?q3v) (Or.inl ⟨by rfl, ?q3h⟩) hHeld ?q3r
     case q3h => (intro wq hSw; clear hSw; go_simp; try with_reducible rfl)
     try simp only [z0, z1, z2, z3]
     refine tn 0 qDrLk_1 (fun K hK => ?_)
     rw [if_pos (by rfl)]
     refine wp_load_whole 25 (.tmp 3) b3 (tbCells (.slice a t.held.length cap) (.slice a2 t.wait.length cap2)) 25 HUT.out rfl rfl ((HS41.out).get 1 rfl) rfl (info_tb) ?_
     have HS42 : Hid (DrH w C [.ob b2 25 (tbCells (.slice none 0 0) (.slice none 0 0)), .ob b3 25 (tbCells (.slice a t.held.length cap) (.slice a2 t.wait.length cap2)), .rd R] w41) := HS41.out
     refine hK.out _ _ (trivial) (fun hHeld => ?_)
     clear hK K
     try simp only [z0, z1, z2, z3]
     refine tn 4 qDrLk_4 (fun K hK => ?_)
     go_simp
     go_wp2_with (go_at_call 29; refine (tb_as HUe.out (rrelease_any (1 + n) _ HRd.out ((HS42.out).reads 2 rfl) HSt.out.ok.good)).mono ?_; rintro e w42 ⟨h9, v9, R9, rfl, hrd2, hin2, hnew2, hb⟩)
     have hnew3 : ∀ r ∈ R9, w.heap.size ≤ r.1 := fun r hr => by
      rcases hnew2 r hr with h | h
      ·exact Nat.le_trans (HS42.out).bes.size h
      ·exact (HS42.out).off (.rd R) (List.mem_of_getElem? (i := 2) rfl) r.1 h
     obtain ⟨a9, c9, rfl, _, _⟩ := hrd2.1.shape
     obtain ⟨d9, e9, rfl, _, _⟩ := hrd2.2.shape
     have H9 := Lib.hid hrd2
     have HS43 : Hid (DrH w C [.ob b2 25 (tbCells (.slice none 0 0) (.slice none 0 0)), .ob b3 25 (tbCells (.slice a t.held.length cap) (.slice a2 t.wait.length cap2)), .rd R, .rd R9] w42) := (HS42.out).addrd hb R9 hin2 (fun r hr => (hnew2 r hr).elim .inl (fun h => .inr ⟨.rd R, List.mem_of_getElem? (i := 2) rfl, h⟩))
     refine hK.out _ _ (trivial) (fun hHeld => ?_)
     clear hK K hb hin2 hrd2 hnew2 hnew3
     try simp only [z0, z1, z2, z3]
     refine tn 5 qDrLk_5 (fun K hK => ?_)
     rw [if_pos (by rfl)]
     refine wp_store_ob 25 (.tmp 3) (.tmp 33) b3 (tbCells (.slice a9 u.held.length c9) (.slice d9 u.wait.length e9)) (tbCells (.slice a t.held.length cap) (.slice a2 t.wait.length cap2)) 25 rfl rfl rfl rfl ((HS43.out).get 1 rfl) (info_tb) (rfl) ((oneCell_tb _ _ _ _ _ _)) ?_
     have HS44 : Hid (DrH w C [.ob b2 25 (tbCells (.slice none 0 0) (.slice none 0 0)), .ob b3 25 (tbCells (.slice a9 u.held.length c9) (.slice d9 u.wait.length e9)), .rd R, .rd R9] (w42.setRow b3 (tbCells (.slice a9 u.held.length c9) (.slice d9 u.wait.length e9)).toArray)) := (HS43.out).row 1 rfl (tbCells (.slice a9 u.held.length c9) (.slice d9 u.wait.length e9))
     refine hK.out _ _ (trivial) (fun hHeld => ?_)
     clear hK K
     generalize (w42.setRow b3 (tbCells (.slice a9 u.held.length c9) (.slice d9 u.wait.length e9)).toArray) = w43 at *
     try simp only [z0, z1, z2, z3]
     refine wpAnyH_done (by kernel_rfl) ?_ _
     clear hHeld
     have HS45 : Hid (DrH w C [.ob b2 25 (tbCells (.slice none 0 0) (.slice none 0 0)), .ob b3 25 (tbCells (.slice a9 u.held.length c9) (.slice d9 u.wait.length e9)), .rd R9] w43) := HS44.out.pull [0, 1, 3] rfl (pull_nd HS44.out.nd [0, 1, 3] rfl (by decide))
     clear HS44
     go_wp2_with fail
     go_roundw
     case rel => exact ⟨u, a9, d9, c9, e9, R9, i - 1, rfl, by have := HP.out; omega, by have := HI.out; have := HLu.out; omega, HSu.out, H9.out, HS45.out⟩
     case measure => simp [intOf]; have := HP.out; omega
   ·obtain ⟨e1, n1⟩ := ne_facts hs4
    by_cases hs5 : s = 5
    ·obtain ⟨e2, n2⟩ := eq_facts hs5
     clear hs4 hs5 s0 s1
     have HU : Hid (∀ n, ∃ u, cancelR t (1 + n) = u ∧ Settled u ∧ tbLen u ≤ tbLen t) := Lib.hid (fun n => ⟨_, rfl, cancel_ok HSt.out.ok (1 + n)⟩)
     go_upto_region 12 with (fail)
     refine wp_region_held_drew (S := fun w' => True) (by kernel_rfl) (trivial) (fun hHeld => ?_)
     refine tk 1 qDrLk_6 (some 37) (v := ?q101v) (Or.inl ⟨by rfl, ?q101h⟩) hHeld ?q101r
     case q101h => (intro wq hSw; clear hSw; go_simp; try with_reducible rfl)
     try simp only [z0, z1, z2, z3]
     refine wpAnyH_ready (rs := [0, 2]) (by kernel_rfl) (by simp) ?_
     refine AllReadyH.cons (o := qDrLk_7) rfl (fun K hK => ?_) (AllReadyH.cons (o := qDrLk_8) rfl (fun K hK => ?_) (AllReadyH.nil))
     ·rw [if_pos (by rfl)]
      refine wp_load_whole 25 (.tmp 3) b3 (tbCells (.slice a t.held.length cap) (.slice a2 t.wait.length cap2)) 25 HUT.out rfl rfl (((HY2.out).drew).get 1 rfl) rfl (info_tb) ?_
      have HS141 : Hid (DrH w C [.ob b2 25 (tbCells (.slice none 0 0) (.slice none 0 0)), .ob b3 25 (tbCells (.slice a t.held.length cap) (.slice a2 t.wait.length cap2)), .rd R] (w3.drew)) := (HY2.out).drew
      refine hK.out _ _ (trivial) (fun hHeld => ?_)
      clear hK K
      generalize w3.drew = w141 at *
      try simp only [z0, z1, z2, z3]
      refine tn 2 qDrLk_8 (fun K hK => ?_)
      go_simp
      go_wp2_with (go_at_call 16; refine (next_any C 5 _ (HS141.out).codes (by omega)).mono ?_; rintro e w142 ⟨n, rfl, n0, n1, hb, hc⟩)
      have HS142 : Hid (DrH w C [.ob b2 25 (tbCells (.slice none 0 0) (.slice none 0 0)), .ob b3 25 (tbCells (.slice a t.held.length cap) (.slice a2 t.wait.length cap2)), .rd R] w142) := (HS141.out).draws hb hc
      refine hK.out _ _ (trivial) (fun hHeld => ?_)
      clear hK K hb hc
      have hw : IntKind.i64.wrap (1 + n) = 1 + n := IntWalk.i64_in _ (by omega)
      obtain ⟨u, hu, hsu, hlu⟩ := HU.out n
      have HUe := Lib.hid hu
      have HSu := Lib.hid hsu
      have HLu := Lib.hid hlu
      clear hu hsu hlu n0 n1
      try simp only [z0, z1, z2, z3]
      refine tk 3 qDrLk_9 (some 39) (v := ?q102v) (Or.inl ⟨by rfl, ?q102h⟩) hHeld ?q102r
      case q102h => (intro wq hSw; clear hSw; go_simp; try with_reducible rfl)
      try simp only [z0, z1, z2, z3]
      refine tn 4 qDrLk_10 (fun K hK => ?_)
      go_simp
      go_wp2_with (go_at_call 27; refine (tb_as HUe.out (rcancel_any (1 + n) _ HRd.out ((HS142.out).reads 2 rfl) HSt.out.ok.good)).mono ?_; rintro e w143 ⟨h9, v9, R9, rfl, hrd2, hin2, hnew2, hb⟩)
      have hnew3 : ∀ r ∈ R9, w.heap.size ≤ r.1 := fun r hr => by
       rcases hnew2 r hr with h | h
       ·exact Nat.le_trans (HS142.out).bes.size h
       ·exact (HS142.out).off (.rd R) (List.mem_of_getElem? (i := 2) rfl) r.1 h
      obtain ⟨a9, c9, rfl, _, _⟩ := hrd2.1.shape
      obtain ⟨d9, e9, rfl, _, _⟩ := hrd2.2.shape
      have H9 := Lib.hid hrd2
      have HS143 : Hid (DrH w C [.ob b2 25 (tbCells (.slice none 0 0) (.slice none 0 0)), .ob b3 25 (tbCells (.slice a t.held.length cap) (.slice a2 t.wait.length cap2)), .rd R, .rd R9] w143) := (HS142.out).addrd hb R9 hin2 (fun r hr => (hnew2 r hr).elim .inl (fun h => .inr ⟨.rd R, List.mem_of_getElem? (i := 2) rfl, h⟩))
      refine hK.out _ _ (trivial) (fun hHeld => ?_)
      clear hK K hb hin2 hrd2 hnew2 hnew3
      try simp only [z0, z1, z2, z3]
      refine tn 5 qDrLk_11 (fun K hK => ?_)
      rw [if_pos (by rfl)]
      refine wp_store_ob 25 (.tmp 3) (.tmp 40) b3 (tbCells (.slice a9 u.held.length c9) (.slice d9 u.wait.length e9)) (tbCells (.slice a t.held.length cap) (.slice a2 t.wait.length cap2)) 25 rfl rfl rfl rfl ((HS143.out).get 1 rfl) (info_tb) (rfl) ((oneCell_tb _ _ _ _ _ _)) ?_
      have HS144 : Hid (DrH w C [.ob b2 25 (tbCells (.slice none 0 0) (.slice none 0 0)), .ob b3 25 (tbCells (.slice a9 u.held.length c9) (.slice d9 u.wait.length e9)), .rd R, .rd R9] (w143.setRow b3 (tbCells (.slice a9 u.held.length c9) (.slice d9 u.wait.length e9)).toArray)) := (HS143.out).row 1 rfl (tbCells (.slice a9 u.held.length c9) (.slice d9 u.wait.length e9))
      refine hK.out _ _ (trivial) (fun hHeld => ?_)
      clear hK K
      generalize (w143.setRow b3 (tbCells (.slice a9 u.held.length c9) (.slice d9 u.wait.length e9)).toArray) = w144 at *
      try simp only [z0, z1, z2, z3]
      refine wpAnyH_done (by kernel_rfl) ?_ _
      clear hHeld
      have HS145 : Hid (DrH w C [.ob b2 25 (tbCells (.slice none 0 0) (.slice none 0 0)), .ob b3 25 (tbCells (.slice a9 u.held.length c9) (.slice d9 u.wait.length e9)), .rd R9] w144) := HS144.out.pull [0, 1, 3] rfl (pull_nd HS144.out.nd [0, 1, 3] rfl (by decide))
      clear HS144
      go_wp2_with fail
      go_roundw
      case rel => exact ⟨u, a9, d9, c9, e9, R9, i - 1, rfl, by have := HP.out; omega, by have := HI.out; have := HLu.out; omega, HSu.out, H9.out, HS145.out⟩
      case measure => simp [intOf]; have := HP.out; omega
     ·go_simp
      go_wp2_with (go_at_call 16; refine (next_any C 5 _ ((HY2.out).drew).codes (by omega)).mono ?_; rintro e w141 ⟨n, rfl, n0, n1, hb, hc⟩)
      have HS141 : Hid (DrH w C [.ob b2 25 (tbCells (.slice none 0 0) (.slice none 0 0)), .ob b3 25 (tbCells (.slice a t.held.length cap) (.slice a2 t.wait.length cap2)), .rd R] w141) := ((HY2.out).drew).draws hb hc
      refine hK.out _ _ (trivial) (fun hHeld => ?_)
      clear hK K hb hc
      have hw : IntKind.i64.wrap (1 + n) = 1 + n := IntWalk.i64_in _ (by omega)
      obtain ⟨u, hu, hsu, hlu⟩ := HU.out n
      have HUe := Lib.hid hu
      have HSu := Lib.hid hsu
      have HLu := Lib.hid hlu
      clear hu hsu hlu n0 n1
      try simp only [z0, z1, z2, z3]
      refine tk 3 qDrLk_9 (some 39) (v := ?q103v) (Or.inl ⟨by rfl, ?q103h⟩) hHeld ?q103r
      case q103h => (intro wq hSw; clear hSw; go_simp; try with_reducible rfl)
      try simp only [z0, z1, z2, z3]
      refine tn 0 qDrLk_7 (fun K hK => ?_)
      rw [if_pos (by rfl)]
      refine wp_load_whole 25 (.tmp 3) b3 (tbCells (.slice a t.held.length cap) (.slice a2 t.wait.length cap2)) 25 HUT.out rfl rfl ((HS141.out).get 1 rfl) rfl (info_tb) ?_
      have HS142 : Hid (DrH w C [.ob b2 25 (tbCells (.slice none 0 0) (.slice none 0 0)), .ob b3 25 (tbCells (.slice a t.held.length cap) (.slice a2 t.wait.length cap2)), .rd R] w141) := HS141.out
      refine hK.out _ _ (trivial) (fun hHeld => ?_)
      clear hK K
      try simp only [z0, z1, z2, z3]
      refine tn 4 qDrLk_10 (fun K hK => ?_)
      go_simp
      go_wp2_with (go_at_call 27; refine (tb_as HUe.out (rcancel_any (1 + n) _ HRd.out ((HS142.out).reads 2 rfl) HSt.out.ok.good)).mono ?_; rintro e w142 ⟨h9, v9, R9, rfl, hrd2, hin2, hnew2, hb⟩)
      have hnew3 : ∀ r ∈ R9, w.heap.size ≤ r.1 := fun r hr => by
       rcases hnew2 r hr with h | h
       ·exact Nat.le_trans (HS142.out).bes.size h
       ·exact (HS142.out).off (.rd R) (List.mem_of_getElem? (i := 2) rfl) r.1 h
      obtain ⟨a9, c9, rfl, _, _⟩ := hrd2.1.shape
      obtain ⟨d9, e9, rfl, _, _⟩ := hrd2.2.shape
      have H9 := Lib.hid hrd2
      have HS143 : Hid (DrH w C [.ob b2 25 (tbCells (.slice none 0 0) (.slice none 0 0)), .ob b3 25 (tbCells (.slice a t.held.length cap) (.slice a2 t.wait.length cap2)), .rd R, .rd R9] w142) := (HS142.out).addrd hb R9 hin2 (fun r hr => (hnew2 r hr).elim .inl (fun h => .inr ⟨.rd R, List.mem_of_getElem? (i := 2) rfl, h⟩))
      refine hK.out _ _ (trivial) (fun hHeld => ?_)
      clear hK K hb hin2 hrd2 hnew2 hnew3
      try simp only [z0, z1, z2, z3]
      refine tn 5 qDrLk_11 (fun K hK => ?_)
      rw [if_pos (by rfl)]
      refine wp_store_ob 25 (.tmp 3) (.tmp 40) b3 (tbCells (.slice a9 u.held.length c9) (.slice d9 u.wait.length e9)) (tbCells (.slice a t.held.length cap) (.slice a2 t.wait.length cap2)) 25 rfl rfl rfl rfl ((HS143.out).get 1 rfl) (info_tb) (rfl) ((oneCell_tb _ _ _ _ _ _)) ?_
      have HS144 : Hid (DrH w C [.ob b2 25 (tbCells (.slice none 0 0) (.slice none 0 0)), .ob b3 25 (tbCells (.slice a9 u.held.length c9) (.slice d9 u.wait.length e9)), .rd R, .rd R9] (w142.setRow b3 (tbCells (.slice a9 u.held.length c9) (.slice d9 u.wait.length e9)).toArray)) := (HS143.out).row 1 rfl (tbCells (.slice a9 u.held.length c9) (.slice d9 u.wait.length e9))
      refine hK.out _ _ (trivial) (fun hHeld => ?_)
      clear hK K
      generalize (w142.setRow b3 (tbCells (.slice a9 u.held.length c9) (.slice d9 u.wait.length e9)).toArray) = w143 at *
      try simp only [z0, z1, z2, z3]
      refine wpAnyH_done (by kernel_rfl) ?_ _
      clear hHeld
      have HS145 : Hid (DrH w C [.ob b2 25 (tbCells (.slice none 0 0) (.slice none 0 0)), .ob b3 25 (tbCells (.slice a9 u.held.length c9) (.slice d9 u.wait.length e9)), .rd R9] w143) := HS144.out.pull [0, 1, 3] rfl (pull_nd HS144.out.nd [0, 1, 3] rfl (by decide))
      clear HS144
      go_wp2_with fail
      go_roundw
      case rel => exact ⟨u, a9, d9, c9, e9, R9, i - 1, rfl, by have := HP.out; omega, by have := HI.out; have := HLu.out; omega, HSu.out, H9.out, HS145.out⟩
      case measure => simp [intOf]; have := HP.out; omega
    ·obtain ⟨e2, n2⟩ := ne_facts hs5
     clear hs4 hs5 s0 s1
     go_upto_region 6 with (fail)
     refine wp_region_held_drew (S := fun w' => True) (by kernel_rfl) (trivial) (fun hHeld => ?_)
     refine tk 1 qDrLk_12 (some 18) (v := ?q201v) (Or.inl ⟨by rfl, ?q201h⟩) hHeld ?q201r
     case q201h => (intro wq hSw; clear hSw; go_simp; try with_reducible rfl)
     try simp only [z0, z1, z2, z3]
     refine wpAnyH_ready (rs := [0, 2, 8]) (by kernel_rfl) (by simp) ?_
     refine AllReadyH.cons (o := qDrLk_13) rfl (fun K hK => ?_) (AllReadyH.cons (o := qDrLk_14) rfl (fun K hK => ?_) (AllReadyH.cons (o := qDrLk_15) rfl (fun K hK => ?_) (AllReadyH.nil)))
     ·rw [if_pos (by rfl)]
      refine wp_load_whole 25 (.tmp 3) b3 (tbCells (.slice a t.held.length cap) (.slice a2 t.wait.length cap2)) 25 HUT.out rfl rfl (((HY2.out).drew).get 1 rfl) rfl (info_tb) ?_
      have HS241 : Hid (DrH w C [.ob b2 25 (tbCells (.slice none 0 0) (.slice none 0 0)), .ob b3 25 (tbCells (.slice a t.held.length cap) (.slice a2 t.wait.length cap2)), .rd R] (w3.drew)) := (HY2.out).drew
      refine hK.out _ _ (trivial) (fun hHeld => ?_)
      clear hK K
      generalize w3.drew = w241 at *
      try simp only [z0, z1, z2, z3]
      refine wpAnyH_ready (rs := [2, 8]) (by kernel_rfl) (by simp) ?_
      refine AllReadyH.cons (o := qDrLk_14) rfl (fun K hK => ?_) (AllReadyH.cons (o := qDrLk_15) rfl (fun K hK => ?_) (AllReadyH.nil))
      ·go_simp
       go_wp2_with (go_at_call 14; refine (grant_any C _ (HS241.out).codes).mono ?_; rintro e w242 ⟨g, rfl, hgo, hb, hc, _⟩)
       have HS242 : Hid (DrH w C [.ob b2 25 (tbCells (.slice none 0 0) (.slice none 0 0)), .ob b3 25 (tbCells (.slice a t.held.length cap) (.slice a2 t.wait.length cap2)), .rd R] w242) := (HS241.out).draws hb hc
       refine hK.out _ _ (trivial) (fun hHeld => ?_)
       clear hK K hb hc
       obtain ⟨u, b, c, hu⟩ : ∃ u b c, requestR t g = (u, b, c) := ⟨_, _, _, rfl⟩
       have HUe := Lib.hid hu
       have HSu : Hid (c = 0 → Settled u ∧ tbLen u ≤ tbLen t + 1) := Lib.hid (fun hc0 => by have h := request_ok HSt.out.ok (g := g) (by rw [hu]; exact hc0); rw [hu] at h; exact ⟨⟨h.1, h.2.1 HSt.out.stuck⟩, h.2.2.2⟩)
       have HGo := Lib.hid hgo
       clear hu hgo
       try simp only [z0, z1, z2, z3]
       refine wpAnyH_ready (rs := [3, 8]) (by kernel_rfl) (by simp) ?_
       refine AllReadyH.cons (o := qDrLk_16) rfl (fun K hK => ?_) (AllReadyH.cons (o := qDrLk_15) rfl (fun K hK => ?_) (AllReadyH.nil))
       ·go_simp
        go_wp2_with (go_at_call 18; refine (tb3_as HUe.out (rrequest_any g _ HRd.out ((HS242.out).reads 2 rfl) HSt.out.ok.good HGo.out.good)).mono ?_; rintro e w243 ⟨h9, v9, R9, rfl, hrd2, hin2, hnew2, hb⟩)
        have hnew3 : ∀ r ∈ R9, w.heap.size ≤ r.1 := fun r hr => by
         rcases hnew2 r hr with h | h
         ·exact Nat.le_trans (HS242.out).bes.size h
         ·exact (HS242.out).off (.rd R) (List.mem_of_getElem? (i := 2) rfl) r.1 h
        obtain ⟨a9, c9, rfl, _, _⟩ := hrd2.1.shape
        obtain ⟨d9, e9, rfl, _, _⟩ := hrd2.2.shape
        have H9 := Lib.hid hrd2
        have HS243 : Hid (DrH w C [.ob b2 25 (tbCells (.slice none 0 0) (.slice none 0 0)), .ob b3 25 (tbCells (.slice a t.held.length cap) (.slice a2 t.wait.length cap2)), .rd R, .rd R9] w243) := (HS242.out).addrd hb R9 hin2 (fun r hr => (hnew2 r hr).elim .inl (fun h => .inr ⟨.rd R, List.mem_of_getElem? (i := 2) rfl, h⟩))
        refine hK.out _ _ (trivial) (fun hHeld => ?_)
        clear hK K hb hin2 hrd2 hnew2 hnew3
        try simp only [z0, z1, z2, z3]
        refine tk 4 qDrLk_17 (some 16) (v := ?q202v) (Or.inl ⟨by rfl, ?q202h⟩) hHeld ?q202r
        case q202h => (intro wq hSw; clear hSw; go_simp; try with_reducible rfl)
        try simp only [z0, z1, z2, z3]
        refine tk 5 qDrLk_18 (some 21) (v := .agg (tbCells (.slice a9 u.held.length c9) (.slice d9 u.wait.length e9)).toArray) (Or.inl ⟨by rfl, ?q203h⟩) hHeld ?q203r
        case q203h => (intro wq hSw; clear hSw; go_simp; try with_reducible rfl)
        try simp only [z0, z1, z2, z3]
        refine tk 6 qDrLk_19 (some 22) (v := .bool b) (Or.inl ⟨by rfl, ?q204h⟩) hHeld ?q204r
        case q204h => (intro wq hSw; clear hSw; go_simp; try with_reducible rfl)
        try simp only [z0, z1, z2, z3]
        refine tk 7 qDrLk_20 (some 23) (v := .int .i64 c) (Or.inl ⟨by rfl, ?q205h⟩) hHeld ?q205r
        case q205h => (intro wq hSw; clear hSw; go_simp; try with_reducible rfl)
        try simp only [z0, z1, z2, z3]
        refine tn 8 qDrLk_15 (fun K hK => ?_)
        rw [if_pos (by rfl)]
        refine wp_alloc_ob 25 (tbCells (.slice none 0 0) (.slice none 0 0)) rfl alloc_tb ?_
        have HS244 : Hid (DrH w C [.ob b2 25 (tbCells (.slice none 0 0) (.slice none 0 0)), .ob b3 25 (tbCells (.slice a t.held.length cap) (.slice a2 t.wait.length cap2)), .rd R, .rd R9, .ob (w243.heap.size) 25 (tbCells (.slice none 0 0) (.slice none 0 0))] (w243.alloc (.cells (tbCells (.slice none 0 0) (.slice none 0 0)).toArray 25))) := (HS243.out).put 25 (tbCells (.slice none 0 0) (.slice none 0 0))
        refine hK.out _ _ (trivial) (fun hHeld => ?_)
        clear hK K
        generalize (w243.alloc (.cells (tbCells (.slice none 0 0) (.slice none 0 0)).toArray 25)) = w244 at *
        generalize w243.heap.size = B241 at *
        try simp only [z0, z1, z2, z3]
        refine tn 9 qDrLk_21 (fun K hK => ?_)
        rw [if_pos (by rfl)]
        refine wp_store_ob 25 (.tmp 5) (.tmp 21) B241 (tbCells (.slice a9 u.held.length c9) (.slice d9 u.wait.length e9)) (tbCells (.slice none 0 0) (.slice none 0 0)) 25 rfl rfl rfl rfl ((HS244.out).get 4 rfl) (info_tb) (rfl) ((oneCell_tb _ _ _ _ _ _)) ?_
        have HS245 : Hid (DrH w C [.ob b2 25 (tbCells (.slice none 0 0) (.slice none 0 0)), .ob b3 25 (tbCells (.slice a t.held.length cap) (.slice a2 t.wait.length cap2)), .rd R, .rd R9, .ob B241 25 (tbCells (.slice a9 u.held.length c9) (.slice d9 u.wait.length e9))] (w244.setRow B241 (tbCells (.slice a9 u.held.length c9) (.slice d9 u.wait.length e9)).toArray)) := (HS244.out).row 4 rfl (tbCells (.slice a9 u.held.length c9) (.slice d9 u.wait.length e9))
        refine hK.out _ _ (trivial) (fun hHeld => ?_)
        clear hK K
        generalize (w244.setRow B241 (tbCells (.slice a9 u.held.length c9) (.slice d9 u.wait.length e9)).toArray) = w245 at *
        try simp only [z0, z1, z2, z3]
        refine tk 10 qDrLk_22 (some 6) (v := ?q206v) (Or.inl ⟨by rfl, ?q206h⟩) hHeld ?q206r
        case q206h => (intro wq hSw; clear hSw; go_simp; try with_reducible rfl)
        try simp only [z0, z1, z2, z3]
        refine tk 11 qDrLk_23 (some 7) (v := ?q207v) (Or.inl ⟨by rfl, ?q207h⟩) hHeld ?q207r
        case q207h => (intro wq hSw; clear hSw; go_simp; try with_reducible rfl)
        try simp only [z0, z1, z2, z3]
        refine wpAnyH_done (by kernel_rfl) ?_ _
        clear hHeld
        by_cases hc0 : c = 0
        ·obtain ⟨e3, n3⟩ := eq_facts hc0
         obtain ⟨hsu, hlu⟩ := HSu.out hc0
         have HSv := Lib.hid hsu
         have HLu := Lib.hid hlu
         clear hc0 hsu hlu HSu
         go_upto_region 8 with (fail)
         go_wp2_with (first | ((with_reducible refine wpList_load_ob 25 (.tmp 5) B241 (tbCells (.slice a9 u.held.length c9) (.slice d9 u.wait.length e9)) 25 HUT.out ?_ ?_ ?_ ?_ ?_); (exact rfl); (exact (HS245.out).get 4 rfl); (exact rfl); (exact info_tb); simp only [Act.put, List.setIfInBounds_toArray, List.set_cons_zero, List.set_cons_succ]) | ((with_reducible refine wpList_store_ob 25 (.tmp 3) b3 (tbCells (.slice a9 u.held.length c9) (.slice d9 u.wait.length e9)) (tbCells (.slice a t.held.length cap) (.slice a2 t.wait.length cap2)) 25 ?_ ?_ ?_ ?_ ?_ ?_ ?_); (exact rfl); (exact rfl); (exact (HS245.out).get 1 rfl); (exact info_tb); (exact rfl); (exact (oneCell_tb _ _ _ _ _ _)); skip))
         have HS246 : Hid (DrH w C [.ob b2 25 (tbCells (.slice none 0 0) (.slice none 0 0)), .ob b3 25 (tbCells (.slice a9 u.held.length c9) (.slice d9 u.wait.length e9)), .rd R, .rd R9, .ob B241 25 (tbCells (.slice a9 u.held.length c9) (.slice d9 u.wait.length e9))] (w245.setRow b3 (tbCells (.slice a9 u.held.length c9) (.slice d9 u.wait.length e9)).toArray)) := (HS245.out).row 1 rfl (tbCells (.slice a9 u.held.length c9) (.slice d9 u.wait.length e9))
         clear HS245
         generalize (w245.setRow b3 (tbCells (.slice a9 u.held.length c9) (.slice d9 u.wait.length e9)).toArray) = w246 at *
         have HS247 : Hid (DrH w C [.ob b2 25 (tbCells (.slice none 0 0) (.slice none 0 0)), .ob b3 25 (tbCells (.slice a9 u.held.length c9) (.slice d9 u.wait.length e9)), .rd R9] w246) := HS246.out.pull [0, 1, 3] rfl (pull_nd HS246.out.nd [0, 1, 3] rfl (by decide))
         clear HS246
         go_wp2_with fail
         go_roundw
         case rel => exact ⟨u, a9, d9, c9, e9, R9, i - 1, rfl, by have := HP.out; omega, by have := HI.out; have := HLu.out; omega, HSv.out, H9.out, HS247.out⟩
         case measure => simp [intOf]; have := HP.out; omega
        ·obtain ⟨e3, n3⟩ := ne_facts hc0
         clear hc0 HSu
         have HS253 : Hid (DrH w C [.ob b2 25 (tbCells (.slice none 0 0) (.slice none 0 0)), .ob b3 25 (tbCells (.slice a t.held.length cap) (.slice a2 t.wait.length cap2)), .rd R] w245) := HS245.out.pull [0, 1, 2] rfl (pull_nd HS245.out.nd [0, 1, 2] rfl (by decide))
         clear HS245
         go_wp2_with fail
         go_roundw
         case rel => exact ⟨t, a, a2, cap, cap2, R, i - 1, rfl, by have := HP.out; omega, by have := HI.out; omega, HSt.out, HRd.out, HS253.out⟩
         case measure => simp [intOf]; have := HP.out; omega
       ·rw [if_pos (by rfl)]
        refine wp_alloc_ob 25 (tbCells (.slice none 0 0) (.slice none 0 0)) rfl alloc_tb ?_
        have HS243 : Hid (DrH w C [.ob b2 25 (tbCells (.slice none 0 0) (.slice none 0 0)), .ob b3 25 (tbCells (.slice a t.held.length cap) (.slice a2 t.wait.length cap2)), .rd R, .ob (w242.heap.size) 25 (tbCells (.slice none 0 0) (.slice none 0 0))] (w242.alloc (.cells (tbCells (.slice none 0 0) (.slice none 0 0)).toArray 25))) := (HS242.out).put 25 (tbCells (.slice none 0 0) (.slice none 0 0))
        refine hK.out _ _ (trivial) (fun hHeld => ?_)
        clear hK K
        generalize (w242.alloc (.cells (tbCells (.slice none 0 0) (.slice none 0 0)).toArray 25)) = w243 at *
        generalize w242.heap.size = B241 at *
        try simp only [z0, z1, z2, z3]
        refine tn 3 qDrLk_16 (fun K hK => ?_)
        go_simp
        go_wp2_with (go_at_call 18; refine (tb3_as HUe.out (rrequest_any g _ HRd.out ((HS243.out).reads 2 rfl) HSt.out.ok.good HGo.out.good)).mono ?_; rintro e w244 ⟨h9, v9, R9, rfl, hrd2, hin2, hnew2, hb⟩)
        have hnew3 : ∀ r ∈ R9, w.heap.size ≤ r.1 := fun r hr => by
         rcases hnew2 r hr with h | h
         ·exact Nat.le_trans (HS243.out).bes.size h
         ·exact (HS243.out).off (.rd R) (List.mem_of_getElem? (i := 2) rfl) r.1 h
        obtain ⟨a9, c9, rfl, _, _⟩ := hrd2.1.shape
        obtain ⟨d9, e9, rfl, _, _⟩ := hrd2.2.shape
        have H9 := Lib.hid hrd2
        have HS244 : Hid (DrH w C [.ob b2 25 (tbCells (.slice none 0 0) (.slice none 0 0)), .ob b3 25 (tbCells (.slice a t.held.length cap) (.slice a2 t.wait.length cap2)), .rd R, .ob B241 25 (tbCells (.slice none 0 0) (.slice none 0 0)), .rd R9] w244) := (HS243.out).addrd hb R9 hin2 (fun r hr => (hnew2 r hr).elim .inl (fun h => .inr ⟨.rd R, List.mem_of_getElem? (i := 2) rfl, h⟩))
        refine hK.out _ _ (trivial) (fun hHeld => ?_)
        clear hK K hb hin2 hrd2 hnew2 hnew3
        try simp only [z0, z1, z2, z3]
        refine tk 4 qDrLk_17 (some 16) (v := ?q213v) (Or.inl ⟨by rfl, ?q213h⟩) hHeld ?q213r
        case q213h => (intro wq hSw; clear hSw; go_simp; try with_reducible rfl)
        try simp only [z0, z1, z2, z3]
        refine tk 5 qDrLk_18 (some 21) (v := .agg (tbCells (.slice a9 u.held.length c9) (.slice d9 u.wait.length e9)).toArray) (Or.inl ⟨by rfl, ?q214h⟩) hHeld ?q214r
        case q214h => (intro wq hSw; clear hSw; go_simp; try with_reducible rfl)
        try simp only [z0, z1, z2, z3]
        refine tk 6 qDrLk_19 (some 22) (v := .bool b) (Or.inl ⟨by rfl, ?q215h⟩) hHeld ?q215r
        case q215h => (intro wq hSw; clear hSw; go_simp; try with_reducible rfl)
        try simp only [z0, z1, z2, z3]
        refine tk 7 qDrLk_20 (some 23) (v := .int .i64 c) (Or.inl ⟨by rfl, ?q216h⟩) hHeld ?q216r
        case q216h => (intro wq hSw; clear hSw; go_simp; try with_reducible rfl)
        try simp only [z0, z1, z2, z3]
        refine tn 9 qDrLk_21 (fun K hK => ?_)
        rw [if_pos (by rfl)]
        refine wp_store_ob 25 (.tmp 5) (.tmp 21) B241 (tbCells (.slice a9 u.held.length c9) (.slice d9 u.wait.length e9)) (tbCells (.slice none 0 0) (.slice none 0 0)) 25 rfl rfl rfl rfl ((HS244.out).get 3 rfl) (info_tb) (rfl) ((oneCell_tb _ _ _ _ _ _)) ?_
        have HS245 : Hid (DrH w C [.ob b2 25 (tbCells (.slice none 0 0) (.slice none 0 0)), .ob b3 25 (tbCells (.slice a t.held.length cap) (.slice a2 t.wait.length cap2)), .rd R, .ob B241 25 (tbCells (.slice a9 u.held.length c9) (.slice d9 u.wait.length e9)), .rd R9] (w244.setRow B241 (tbCells (.slice a9 u.held.length c9) (.slice d9 u.wait.length e9)).toArray)) := (HS244.out).row 3 rfl (tbCells (.slice a9 u.held.length c9) (.slice d9 u.wait.length e9))
        refine hK.out _ _ (trivial) (fun hHeld => ?_)
        clear hK K
        generalize (w244.setRow B241 (tbCells (.slice a9 u.held.length c9) (.slice d9 u.wait.length e9)).toArray) = w245 at *
        try simp only [z0, z1, z2, z3]
        refine tk 10 qDrLk_22 (some 6) (v := ?q217v) (Or.inl ⟨by rfl, ?q217h⟩) hHeld ?q217r
        case q217h => (intro wq hSw; clear hSw; go_simp; try with_reducible rfl)
        try simp only [z0, z1, z2, z3]
        refine tk 11 qDrLk_23 (some 7) (v := ?q218v) (Or.inl ⟨by rfl, ?q218h⟩) hHeld ?q218r
        case q218h => (intro wq hSw; clear hSw; go_simp; try with_reducible rfl)
        try simp only [z0, z1, z2, z3]
        refine wpAnyH_done (by kernel_rfl) ?_ _
        clear hHeld
        by_cases hc0 : c = 0
        ·obtain ⟨e3, n3⟩ := eq_facts hc0
         obtain ⟨hsu, hlu⟩ := HSu.out hc0
         have HSv := Lib.hid hsu
         have HLu := Lib.hid hlu
         clear hc0 hsu hlu HSu
         go_upto_region 8 with (fail)
         go_wp2_with (first | ((with_reducible refine wpList_load_ob 25 (.tmp 5) B241 (tbCells (.slice a9 u.held.length c9) (.slice d9 u.wait.length e9)) 25 HUT.out ?_ ?_ ?_ ?_ ?_); (exact rfl); (exact (HS245.out).get 3 rfl); (exact rfl); (exact info_tb); simp only [Act.put, List.setIfInBounds_toArray, List.set_cons_zero, List.set_cons_succ]) | ((with_reducible refine wpList_store_ob 25 (.tmp 3) b3 (tbCells (.slice a9 u.held.length c9) (.slice d9 u.wait.length e9)) (tbCells (.slice a t.held.length cap) (.slice a2 t.wait.length cap2)) 25 ?_ ?_ ?_ ?_ ?_ ?_ ?_); (exact rfl); (exact rfl); (exact (HS245.out).get 1 rfl); (exact info_tb); (exact rfl); (exact (oneCell_tb _ _ _ _ _ _)); skip))
         have HS246 : Hid (DrH w C [.ob b2 25 (tbCells (.slice none 0 0) (.slice none 0 0)), .ob b3 25 (tbCells (.slice a9 u.held.length c9) (.slice d9 u.wait.length e9)), .rd R, .ob B241 25 (tbCells (.slice a9 u.held.length c9) (.slice d9 u.wait.length e9)), .rd R9] (w245.setRow b3 (tbCells (.slice a9 u.held.length c9) (.slice d9 u.wait.length e9)).toArray)) := (HS245.out).row 1 rfl (tbCells (.slice a9 u.held.length c9) (.slice d9 u.wait.length e9))
         clear HS245
         generalize (w245.setRow b3 (tbCells (.slice a9 u.held.length c9) (.slice d9 u.wait.length e9)).toArray) = w246 at *
         have HS247 : Hid (DrH w C [.ob b2 25 (tbCells (.slice none 0 0) (.slice none 0 0)), .ob b3 25 (tbCells (.slice a9 u.held.length c9) (.slice d9 u.wait.length e9)), .rd R9] w246) := HS246.out.pull [0, 1, 4] rfl (pull_nd HS246.out.nd [0, 1, 4] rfl (by decide))
         clear HS246
         go_wp2_with fail
         go_roundw
         case rel => exact ⟨u, a9, d9, c9, e9, R9, i - 1, rfl, by have := HP.out; omega, by have := HI.out; have := HLu.out; omega, HSv.out, H9.out, HS247.out⟩
         case measure => simp [intOf]; have := HP.out; omega
        ·obtain ⟨e3, n3⟩ := ne_facts hc0
         clear hc0 HSu
         have HS253 : Hid (DrH w C [.ob b2 25 (tbCells (.slice none 0 0) (.slice none 0 0)), .ob b3 25 (tbCells (.slice a t.held.length cap) (.slice a2 t.wait.length cap2)), .rd R] w245) := HS245.out.pull [0, 1, 2] rfl (pull_nd HS245.out.nd [0, 1, 2] rfl (by decide))
         clear HS245
         go_wp2_with fail
         go_roundw
         case rel => exact ⟨t, a, a2, cap, cap2, R, i - 1, rfl, by have := HP.out; omega, by have := HI.out; omega, HSt.out, HRd.out, HS253.out⟩
         case measure => simp [intOf]; have := HP.out; omega
      ·rw [if_pos (by rfl)]
       refine wp_alloc_ob 25 (tbCells (.slice none 0 0) (.slice none 0 0)) rfl alloc_tb ?_
       have HS242 : Hid (DrH w C [.ob b2 25 (tbCells (.slice none 0 0) (.slice none 0 0)), .ob b3 25 (tbCells (.slice a t.held.length cap) (.slice a2 t.wait.length cap2)), .rd R, .ob (w241.heap.size) 25 (tbCells (.slice none 0 0) (.slice none 0 0))] (w241.alloc (.cells (tbCells (.slice none 0 0) (.slice none 0 0)).toArray 25))) := (HS241.out).put 25 (tbCells (.slice none 0 0) (.slice none 0 0))
       refine hK.out _ _ (trivial) (fun hHeld => ?_)
       clear hK K
       generalize (w241.alloc (.cells (tbCells (.slice none 0 0) (.slice none 0 0)).toArray 25)) = w242 at *
       generalize w241.heap.size = B241 at *
       try simp only [z0, z1, z2, z3]
       refine tn 2 qDrLk_14 (fun K hK => ?_)
       go_simp
       go_wp2_with (go_at_call 14; refine (grant_any C _ (HS242.out).codes).mono ?_; rintro e w243 ⟨g, rfl, hgo, hb, hc, _⟩)
       have HS243 : Hid (DrH w C [.ob b2 25 (tbCells (.slice none 0 0) (.slice none 0 0)), .ob b3 25 (tbCells (.slice a t.held.length cap) (.slice a2 t.wait.length cap2)), .rd R, .ob B241 25 (tbCells (.slice none 0 0) (.slice none 0 0))] w243) := (HS242.out).draws hb hc
       refine hK.out _ _ (trivial) (fun hHeld => ?_)
       clear hK K hb hc
       obtain ⟨u, b, c, hu⟩ : ∃ u b c, requestR t g = (u, b, c) := ⟨_, _, _, rfl⟩
       have HUe := Lib.hid hu
       have HSu : Hid (c = 0 → Settled u ∧ tbLen u ≤ tbLen t + 1) := Lib.hid (fun hc0 => by have h := request_ok HSt.out.ok (g := g) (by rw [hu]; exact hc0); rw [hu] at h; exact ⟨⟨h.1, h.2.1 HSt.out.stuck⟩, h.2.2.2⟩)
       have HGo := Lib.hid hgo
       clear hu hgo
       try simp only [z0, z1, z2, z3]
       refine tn 3 qDrLk_16 (fun K hK => ?_)
       go_simp
       go_wp2_with (go_at_call 18; refine (tb3_as HUe.out (rrequest_any g _ HRd.out ((HS243.out).reads 2 rfl) HSt.out.ok.good HGo.out.good)).mono ?_; rintro e w244 ⟨h9, v9, R9, rfl, hrd2, hin2, hnew2, hb⟩)
       have hnew3 : ∀ r ∈ R9, w.heap.size ≤ r.1 := fun r hr => by
        rcases hnew2 r hr with h | h
        ·exact Nat.le_trans (HS243.out).bes.size h
        ·exact (HS243.out).off (.rd R) (List.mem_of_getElem? (i := 2) rfl) r.1 h
       obtain ⟨a9, c9, rfl, _, _⟩ := hrd2.1.shape
       obtain ⟨d9, e9, rfl, _, _⟩ := hrd2.2.shape
       have H9 := Lib.hid hrd2
       have HS244 : Hid (DrH w C [.ob b2 25 (tbCells (.slice none 0 0) (.slice none 0 0)), .ob b3 25 (tbCells (.slice a t.held.length cap) (.slice a2 t.wait.length cap2)), .rd R, .ob B241 25 (tbCells (.slice none 0 0) (.slice none 0 0)), .rd R9] w244) := (HS243.out).addrd hb R9 hin2 (fun r hr => (hnew2 r hr).elim .inl (fun h => .inr ⟨.rd R, List.mem_of_getElem? (i := 2) rfl, h⟩))
       refine hK.out _ _ (trivial) (fun hHeld => ?_)
       clear hK K hb hin2 hrd2 hnew2 hnew3
       try simp only [z0, z1, z2, z3]
       refine tk 4 qDrLk_17 (some 16) (v := ?q224v) (Or.inl ⟨by rfl, ?q224h⟩) hHeld ?q224r
       case q224h => (intro wq hSw; clear hSw; go_simp; try with_reducible rfl)
       try simp only [z0, z1, z2, z3]
       refine tk 5 qDrLk_18 (some 21) (v := .agg (tbCells (.slice a9 u.held.length c9) (.slice d9 u.wait.length e9)).toArray) (Or.inl ⟨by rfl, ?q225h⟩) hHeld ?q225r
       case q225h => (intro wq hSw; clear hSw; go_simp; try with_reducible rfl)
       try simp only [z0, z1, z2, z3]
       refine tk 6 qDrLk_19 (some 22) (v := .bool b) (Or.inl ⟨by rfl, ?q226h⟩) hHeld ?q226r
       case q226h => (intro wq hSw; clear hSw; go_simp; try with_reducible rfl)
       try simp only [z0, z1, z2, z3]
       refine tk 7 qDrLk_20 (some 23) (v := .int .i64 c) (Or.inl ⟨by rfl, ?q227h⟩) hHeld ?q227r
       case q227h => (intro wq hSw; clear hSw; go_simp; try with_reducible rfl)
       try simp only [z0, z1, z2, z3]
       refine tn 9 qDrLk_21 (fun K hK => ?_)
       rw [if_pos (by rfl)]
       refine wp_store_ob 25 (.tmp 5) (.tmp 21) B241 (tbCells (.slice a9 u.held.length c9) (.slice d9 u.wait.length e9)) (tbCells (.slice none 0 0) (.slice none 0 0)) 25 rfl rfl rfl rfl ((HS244.out).get 3 rfl) (info_tb) (rfl) ((oneCell_tb _ _ _ _ _ _)) ?_
       have HS245 : Hid (DrH w C [.ob b2 25 (tbCells (.slice none 0 0) (.slice none 0 0)), .ob b3 25 (tbCells (.slice a t.held.length cap) (.slice a2 t.wait.length cap2)), .rd R, .ob B241 25 (tbCells (.slice a9 u.held.length c9) (.slice d9 u.wait.length e9)), .rd R9] (w244.setRow B241 (tbCells (.slice a9 u.held.length c9) (.slice d9 u.wait.length e9)).toArray)) := (HS244.out).row 3 rfl (tbCells (.slice a9 u.held.length c9) (.slice d9 u.wait.length e9))
       refine hK.out _ _ (trivial) (fun hHeld => ?_)
       clear hK K
       generalize (w244.setRow B241 (tbCells (.slice a9 u.held.length c9) (.slice d9 u.wait.length e9)).toArray) = w245 at *
       try simp only [z0, z1, z2, z3]
       refine tk 10 qDrLk_22 (some 6) (v := ?q228v) (Or.inl ⟨by rfl, ?q228h⟩) hHeld ?q228r
       case q228h => (intro wq hSw; clear hSw; go_simp; try with_reducible rfl)
       try simp only [z0, z1, z2, z3]
       refine tk 11 qDrLk_23 (some 7) (v := ?q229v) (Or.inl ⟨by rfl, ?q229h⟩) hHeld ?q229r
       case q229h => (intro wq hSw; clear hSw; go_simp; try with_reducible rfl)
       try simp only [z0, z1, z2, z3]
       refine wpAnyH_done (by kernel_rfl) ?_ _
       clear hHeld
       by_cases hc0 : c = 0
       ·obtain ⟨e3, n3⟩ := eq_facts hc0
        obtain ⟨hsu, hlu⟩ := HSu.out hc0
        have HSv := Lib.hid hsu
        have HLu := Lib.hid hlu
        clear hc0 hsu hlu HSu
        go_upto_region 8 with (fail)
        go_wp2_with (first | ((with_reducible refine wpList_load_ob 25 (.tmp 5) B241 (tbCells (.slice a9 u.held.length c9) (.slice d9 u.wait.length e9)) 25 HUT.out ?_ ?_ ?_ ?_ ?_); (exact rfl); (exact (HS245.out).get 3 rfl); (exact rfl); (exact info_tb); simp only [Act.put, List.setIfInBounds_toArray, List.set_cons_zero, List.set_cons_succ]) | ((with_reducible refine wpList_store_ob 25 (.tmp 3) b3 (tbCells (.slice a9 u.held.length c9) (.slice d9 u.wait.length e9)) (tbCells (.slice a t.held.length cap) (.slice a2 t.wait.length cap2)) 25 ?_ ?_ ?_ ?_ ?_ ?_ ?_); (exact rfl); (exact rfl); (exact (HS245.out).get 1 rfl); (exact info_tb); (exact rfl); (exact (oneCell_tb _ _ _ _ _ _)); skip))
        have HS246 : Hid (DrH w C [.ob b2 25 (tbCells (.slice none 0 0) (.slice none 0 0)), .ob b3 25 (tbCells (.slice a9 u.held.length c9) (.slice d9 u.wait.length e9)), .rd R, .ob B241 25 (tbCells (.slice a9 u.held.length c9) (.slice d9 u.wait.length e9)), .rd R9] (w245.setRow b3 (tbCells (.slice a9 u.held.length c9) (.slice d9 u.wait.length e9)).toArray)) := (HS245.out).row 1 rfl (tbCells (.slice a9 u.held.length c9) (.slice d9 u.wait.length e9))
        clear HS245
        generalize (w245.setRow b3 (tbCells (.slice a9 u.held.length c9) (.slice d9 u.wait.length e9)).toArray) = w246 at *
        have HS247 : Hid (DrH w C [.ob b2 25 (tbCells (.slice none 0 0) (.slice none 0 0)), .ob b3 25 (tbCells (.slice a9 u.held.length c9) (.slice d9 u.wait.length e9)), .rd R9] w246) := HS246.out.pull [0, 1, 4] rfl (pull_nd HS246.out.nd [0, 1, 4] rfl (by decide))
        clear HS246
        go_wp2_with fail
        go_roundw
        case rel => exact ⟨u, a9, d9, c9, e9, R9, i - 1, rfl, by have := HP.out; omega, by have := HI.out; have := HLu.out; omega, HSv.out, H9.out, HS247.out⟩
        case measure => simp [intOf]; have := HP.out; omega
       ·obtain ⟨e3, n3⟩ := ne_facts hc0
        clear hc0 HSu
        have HS253 : Hid (DrH w C [.ob b2 25 (tbCells (.slice none 0 0) (.slice none 0 0)), .ob b3 25 (tbCells (.slice a t.held.length cap) (.slice a2 t.wait.length cap2)), .rd R] w245) := HS245.out.pull [0, 1, 2] rfl (pull_nd HS245.out.nd [0, 1, 2] rfl (by decide))
        clear HS245
        go_wp2_with fail
        go_roundw
        case rel => exact ⟨t, a, a2, cap, cap2, R, i - 1, rfl, by have := HP.out; omega, by have := HI.out; omega, HSt.out, HRd.out, HS253.out⟩
        case measure => simp [intOf]; have := HP.out; omega
     ·go_simp
      go_wp2_with (go_at_call 14; refine (grant_any C _ ((HY2.out).drew).codes).mono ?_; rintro e w241 ⟨g, rfl, hgo, hb, hc, _⟩)
      have HS241 : Hid (DrH w C [.ob b2 25 (tbCells (.slice none 0 0) (.slice none 0 0)), .ob b3 25 (tbCells (.slice a t.held.length cap) (.slice a2 t.wait.length cap2)), .rd R] w241) := ((HY2.out).drew).draws hb hc
      refine hK.out _ _ (trivial) (fun hHeld => ?_)
      clear hK K hb hc
      obtain ⟨u, b, c, hu⟩ : ∃ u b c, requestR t g = (u, b, c) := ⟨_, _, _, rfl⟩
      have HUe := Lib.hid hu
      have HSu : Hid (c = 0 → Settled u ∧ tbLen u ≤ tbLen t + 1) := Lib.hid (fun hc0 => by have h := request_ok HSt.out.ok (g := g) (by rw [hu]; exact hc0); rw [hu] at h; exact ⟨⟨h.1, h.2.1 HSt.out.stuck⟩, h.2.2.2⟩)
      have HGo := Lib.hid hgo
      clear hu hgo
      try simp only [z0, z1, z2, z3]
      refine wpAnyH_ready (rs := [0, 8]) (by kernel_rfl) (by simp) ?_
      refine AllReadyH.cons (o := qDrLk_13) rfl (fun K hK => ?_) (AllReadyH.cons (o := qDrLk_15) rfl (fun K hK => ?_) (AllReadyH.nil))
      ·rw [if_pos (by rfl)]
       refine wp_load_whole 25 (.tmp 3) b3 (tbCells (.slice a t.held.length cap) (.slice a2 t.wait.length cap2)) 25 HUT.out rfl rfl ((HS241.out).get 1 rfl) rfl (info_tb) ?_
       have HS242 : Hid (DrH w C [.ob b2 25 (tbCells (.slice none 0 0) (.slice none 0 0)), .ob b3 25 (tbCells (.slice a t.held.length cap) (.slice a2 t.wait.length cap2)), .rd R] w241) := HS241.out
       refine hK.out _ _ (trivial) (fun hHeld => ?_)
       clear hK K
       try simp only [z0, z1, z2, z3]
       refine wpAnyH_ready (rs := [3, 8]) (by kernel_rfl) (by simp) ?_
       refine AllReadyH.cons (o := qDrLk_16) rfl (fun K hK => ?_) (AllReadyH.cons (o := qDrLk_15) rfl (fun K hK => ?_) (AllReadyH.nil))
       ·go_simp
        go_wp2_with (go_at_call 18; refine (tb3_as HUe.out (rrequest_any g _ HRd.out ((HS242.out).reads 2 rfl) HSt.out.ok.good HGo.out.good)).mono ?_; rintro e w242 ⟨h9, v9, R9, rfl, hrd2, hin2, hnew2, hb⟩)
        have hnew3 : ∀ r ∈ R9, w.heap.size ≤ r.1 := fun r hr => by
         rcases hnew2 r hr with h | h
         ·exact Nat.le_trans (HS242.out).bes.size h
         ·exact (HS242.out).off (.rd R) (List.mem_of_getElem? (i := 2) rfl) r.1 h
        obtain ⟨a9, c9, rfl, _, _⟩ := hrd2.1.shape
        obtain ⟨d9, e9, rfl, _, _⟩ := hrd2.2.shape
        have H9 := Lib.hid hrd2
        have HS243 : Hid (DrH w C [.ob b2 25 (tbCells (.slice none 0 0) (.slice none 0 0)), .ob b3 25 (tbCells (.slice a t.held.length cap) (.slice a2 t.wait.length cap2)), .rd R, .rd R9] w242) := (HS242.out).addrd hb R9 hin2 (fun r hr => (hnew2 r hr).elim .inl (fun h => .inr ⟨.rd R, List.mem_of_getElem? (i := 2) rfl, h⟩))
        refine hK.out _ _ (trivial) (fun hHeld => ?_)
        clear hK K hb hin2 hrd2 hnew2 hnew3
        try simp only [z0, z1, z2, z3]
        refine tk 4 qDrLk_17 (some 16) (v := ?q235v) (Or.inl ⟨by rfl, ?q235h⟩) hHeld ?q235r
        case q235h => (intro wq hSw; clear hSw; go_simp; try with_reducible rfl)
        try simp only [z0, z1, z2, z3]
        refine tk 5 qDrLk_18 (some 21) (v := .agg (tbCells (.slice a9 u.held.length c9) (.slice d9 u.wait.length e9)).toArray) (Or.inl ⟨by rfl, ?q236h⟩) hHeld ?q236r
        case q236h => (intro wq hSw; clear hSw; go_simp; try with_reducible rfl)
        try simp only [z0, z1, z2, z3]
        refine tk 6 qDrLk_19 (some 22) (v := .bool b) (Or.inl ⟨by rfl, ?q237h⟩) hHeld ?q237r
        case q237h => (intro wq hSw; clear hSw; go_simp; try with_reducible rfl)
        try simp only [z0, z1, z2, z3]
        refine tk 7 qDrLk_20 (some 23) (v := .int .i64 c) (Or.inl ⟨by rfl, ?q238h⟩) hHeld ?q238r
        case q238h => (intro wq hSw; clear hSw; go_simp; try with_reducible rfl)
        try simp only [z0, z1, z2, z3]
        refine tn 8 qDrLk_15 (fun K hK => ?_)
        rw [if_pos (by rfl)]
        refine wp_alloc_ob 25 (tbCells (.slice none 0 0) (.slice none 0 0)) rfl alloc_tb ?_
        have HS244 : Hid (DrH w C [.ob b2 25 (tbCells (.slice none 0 0) (.slice none 0 0)), .ob b3 25 (tbCells (.slice a t.held.length cap) (.slice a2 t.wait.length cap2)), .rd R, .rd R9, .ob (w242.heap.size) 25 (tbCells (.slice none 0 0) (.slice none 0 0))] (w242.alloc (.cells (tbCells (.slice none 0 0) (.slice none 0 0)).toArray 25))) := (HS243.out).put 25 (tbCells (.slice none 0 0) (.slice none 0 0))
        refine hK.out _ _ (trivial) (fun hHeld => ?_)
        clear hK K
        generalize (w242.alloc (.cells (tbCells (.slice none 0 0) (.slice none 0 0)).toArray 25)) = w243 at *
        generalize w242.heap.size = B241 at *
        try simp only [z0, z1, z2, z3]
        refine tn 9 qDrLk_21 (fun K hK => ?_)
        rw [if_pos (by rfl)]
        refine wp_store_ob 25 (.tmp 5) (.tmp 21) B241 (tbCells (.slice a9 u.held.length c9) (.slice d9 u.wait.length e9)) (tbCells (.slice none 0 0) (.slice none 0 0)) 25 rfl rfl rfl rfl ((HS244.out).get 4 rfl) (info_tb) (rfl) ((oneCell_tb _ _ _ _ _ _)) ?_
        have HS245 : Hid (DrH w C [.ob b2 25 (tbCells (.slice none 0 0) (.slice none 0 0)), .ob b3 25 (tbCells (.slice a t.held.length cap) (.slice a2 t.wait.length cap2)), .rd R, .rd R9, .ob B241 25 (tbCells (.slice a9 u.held.length c9) (.slice d9 u.wait.length e9))] (w243.setRow B241 (tbCells (.slice a9 u.held.length c9) (.slice d9 u.wait.length e9)).toArray)) := (HS244.out).row 4 rfl (tbCells (.slice a9 u.held.length c9) (.slice d9 u.wait.length e9))
        refine hK.out _ _ (trivial) (fun hHeld => ?_)
        clear hK K
        generalize (w243.setRow B241 (tbCells (.slice a9 u.held.length c9) (.slice d9 u.wait.length e9)).toArray) = w244 at *
        try simp only [z0, z1, z2, z3]
        refine tk 10 qDrLk_22 (some 6) (v := ?q239v) (Or.inl ⟨by rfl, ?q239h⟩) hHeld ?q239r
        case q239h => (intro wq hSw; clear hSw; go_simp; try with_reducible rfl)
        try simp only [z0, z1, z2, z3]
        refine tk 11 qDrLk_23 (some 7) (v := ?q240v) (Or.inl ⟨by rfl, ?q240h⟩) hHeld ?q240r
        case q240h => (intro wq hSw; clear hSw; go_simp; try with_reducible rfl)
        try simp only [z0, z1, z2, z3]
        refine wpAnyH_done (by kernel_rfl) ?_ _
        clear hHeld
        by_cases hc0 : c = 0
        ·obtain ⟨e3, n3⟩ := eq_facts hc0
         obtain ⟨hsu, hlu⟩ := HSu.out hc0
         have HSv := Lib.hid hsu
         have HLu := Lib.hid hlu
         clear hc0 hsu hlu HSu
         go_upto_region 8 with (fail)
         go_wp2_with (first | ((with_reducible refine wpList_load_ob 25 (.tmp 5) B241 (tbCells (.slice a9 u.held.length c9) (.slice d9 u.wait.length e9)) 25 HUT.out ?_ ?_ ?_ ?_ ?_); (exact rfl); (exact (HS245.out).get 4 rfl); (exact rfl); (exact info_tb); simp only [Act.put, List.setIfInBounds_toArray, List.set_cons_zero, List.set_cons_succ]) | ((with_reducible refine wpList_store_ob 25 (.tmp 3) b3 (tbCells (.slice a9 u.held.length c9) (.slice d9 u.wait.length e9)) (tbCells (.slice a t.held.length cap) (.slice a2 t.wait.length cap2)) 25 ?_ ?_ ?_ ?_ ?_ ?_ ?_); (exact rfl); (exact rfl); (exact (HS245.out).get 1 rfl); (exact info_tb); (exact rfl); (exact (oneCell_tb _ _ _ _ _ _)); skip))
         have HS246 : Hid (DrH w C [.ob b2 25 (tbCells (.slice none 0 0) (.slice none 0 0)), .ob b3 25 (tbCells (.slice a9 u.held.length c9) (.slice d9 u.wait.length e9)), .rd R, .rd R9, .ob B241 25 (tbCells (.slice a9 u.held.length c9) (.slice d9 u.wait.length e9))] (w244.setRow b3 (tbCells (.slice a9 u.held.length c9) (.slice d9 u.wait.length e9)).toArray)) := (HS245.out).row 1 rfl (tbCells (.slice a9 u.held.length c9) (.slice d9 u.wait.length e9))
         clear HS245
         generalize (w244.setRow b3 (tbCells (.slice a9 u.held.length c9) (.slice d9 u.wait.length e9)).toArray) = w245 at *
         have HS247 : Hid (DrH w C [.ob b2 25 (tbCells (.slice none 0 0) (.slice none 0 0)), .ob b3 25 (tbCells (.slice a9 u.held.length c9) (.slice d9 u.wait.length e9)), .rd R9] w245) := HS246.out.pull [0, 1, 3] rfl (pull_nd HS246.out.nd [0, 1, 3] rfl (by decide))
         clear HS246
         go_wp2_with fail
         go_roundw
         case rel => exact ⟨u, a9, d9, c9, e9, R9, i - 1, rfl, by have := HP.out; omega, by have := HI.out; have := HLu.out; omega, HSv.out, H9.out, HS247.out⟩
         case measure => simp [intOf]; have := HP.out; omega
        ·obtain ⟨e3, n3⟩ := ne_facts hc0
         clear hc0 HSu
         have HS253 : Hid (DrH w C [.ob b2 25 (tbCells (.slice none 0 0) (.slice none 0 0)), .ob b3 25 (tbCells (.slice a t.held.length cap) (.slice a2 t.wait.length cap2)), .rd R] w244) := HS245.out.pull [0, 1, 2] rfl (pull_nd HS245.out.nd [0, 1, 2] rfl (by decide))
         clear HS245
         go_wp2_with fail
         go_roundw
         case rel => exact ⟨t, a, a2, cap, cap2, R, i - 1, rfl, by have := HP.out; omega, by have := HI.out; omega, HSt.out, HRd.out, HS253.out⟩
         case measure => simp [intOf]; have := HP.out; omega
       ·rw [if_pos (by rfl)]
        refine wp_alloc_ob 25 (tbCells (.slice none 0 0) (.slice none 0 0)) rfl alloc_tb ?_
        have HS243 : Hid (DrH w C [.ob b2 25 (tbCells (.slice none 0 0) (.slice none 0 0)), .ob b3 25 (tbCells (.slice a t.held.length cap) (.slice a2 t.wait.length cap2)), .rd R, .ob (w241.heap.size) 25 (tbCells (.slice none 0 0) (.slice none 0 0))] (w241.alloc (.cells (tbCells (.slice none 0 0) (.slice none 0 0)).toArray 25))) := (HS242.out).put 25 (tbCells (.slice none 0 0) (.slice none 0 0))
        refine hK.out _ _ (trivial) (fun hHeld => ?_)
        clear hK K
        generalize (w241.alloc (.cells (tbCells (.slice none 0 0) (.slice none 0 0)).toArray 25)) = w242 at *
        generalize w241.heap.size = B241 at *
        try simp only [z0, z1, z2, z3]
        refine tn 3 qDrLk_16 (fun K hK => ?_)
        go_simp
        go_wp2_with (go_at_call 18; refine (tb3_as HUe.out (rrequest_any g _ HRd.out ((HS243.out).reads 2 rfl) HSt.out.ok.good HGo.out.good)).mono ?_; rintro e w243 ⟨h9, v9, R9, rfl, hrd2, hin2, hnew2, hb⟩)
        have hnew3 : ∀ r ∈ R9, w.heap.size ≤ r.1 := fun r hr => by
         rcases hnew2 r hr with h | h
         ·exact Nat.le_trans (HS243.out).bes.size h
         ·exact (HS243.out).off (.rd R) (List.mem_of_getElem? (i := 2) rfl) r.1 h
        obtain ⟨a9, c9, rfl, _, _⟩ := hrd2.1.shape
        obtain ⟨d9, e9, rfl, _, _⟩ := hrd2.2.shape
        have H9 := Lib.hid hrd2
        have HS244 : Hid (DrH w C [.ob b2 25 (tbCells (.slice none 0 0) (.slice none 0 0)), .ob b3 25 (tbCells (.slice a t.held.length cap) (.slice a2 t.wait.length cap2)), .rd R, .ob B241 25 (tbCells (.slice none 0 0) (.slice none 0 0)), .rd R9] w243) := (HS243.out).addrd hb R9 hin2 (fun r hr => (hnew2 r hr).elim .inl (fun h => .inr ⟨.rd R, List.mem_of_getElem? (i := 2) rfl, h⟩))
        refine hK.out _ _ (trivial) (fun hHeld => ?_)
        clear hK K hb hin2 hrd2 hnew2 hnew3
        try simp only [z0, z1, z2, z3]
        refine tk 4 qDrLk_17 (some 16) (v := ?q246v) (Or.inl ⟨by rfl, ?q246h⟩) hHeld ?q246r
        case q246h => (intro wq hSw; clear hSw; go_simp; try with_reducible rfl)
        try simp only [z0, z1, z2, z3]
        refine tk 5 qDrLk_18 (some 21) (v := .agg (tbCells (.slice a9 u.held.length c9) (.slice d9 u.wait.length e9)).toArray) (Or.inl ⟨by rfl, ?q247h⟩) hHeld ?q247r
        case q247h => (intro wq hSw; clear hSw; go_simp; try with_reducible rfl)
        try simp only [z0, z1, z2, z3]
        refine tk 6 qDrLk_19 (some 22) (v := .bool b) (Or.inl ⟨by rfl, ?q248h⟩) hHeld ?q248r
        case q248h => (intro wq hSw; clear hSw; go_simp; try with_reducible rfl)
        try simp only [z0, z1, z2, z3]
        refine tk 7 qDrLk_20 (some 23) (v := .int .i64 c) (Or.inl ⟨by rfl, ?q249h⟩) hHeld ?q249r
        case q249h => (intro wq hSw; clear hSw; go_simp; try with_reducible rfl)
        try simp only [z0, z1, z2, z3]
        refine tn 9 qDrLk_21 (fun K hK => ?_)
        rw [if_pos (by rfl)]
        refine wp_store_ob 25 (.tmp 5) (.tmp 21) B241 (tbCells (.slice a9 u.held.length c9) (.slice d9 u.wait.length e9)) (tbCells (.slice none 0 0) (.slice none 0 0)) 25 rfl rfl rfl rfl ((HS244.out).get 3 rfl) (info_tb) (rfl) ((oneCell_tb _ _ _ _ _ _)) ?_
        have HS245 : Hid (DrH w C [.ob b2 25 (tbCells (.slice none 0 0) (.slice none 0 0)), .ob b3 25 (tbCells (.slice a t.held.length cap) (.slice a2 t.wait.length cap2)), .rd R, .ob B241 25 (tbCells (.slice a9 u.held.length c9) (.slice d9 u.wait.length e9)), .rd R9] (w243.setRow B241 (tbCells (.slice a9 u.held.length c9) (.slice d9 u.wait.length e9)).toArray)) := (HS244.out).row 3 rfl (tbCells (.slice a9 u.held.length c9) (.slice d9 u.wait.length e9))
        refine hK.out _ _ (trivial) (fun hHeld => ?_)
        clear hK K
        generalize (w243.setRow B241 (tbCells (.slice a9 u.held.length c9) (.slice d9 u.wait.length e9)).toArray) = w244 at *
        try simp only [z0, z1, z2, z3]
        refine tk 10 qDrLk_22 (some 6) (v := ?q250v) (Or.inl ⟨by rfl, ?q250h⟩) hHeld ?q250r
        case q250h => (intro wq hSw; clear hSw; go_simp; try with_reducible rfl)
        try simp only [z0, z1, z2, z3]
        refine tk 11 qDrLk_23 (some 7) (v := ?q251v) (Or.inl ⟨by rfl, ?q251h⟩) hHeld ?q251r
        case q251h => (intro wq hSw; clear hSw; go_simp; try with_reducible rfl)
        try simp only [z0, z1, z2, z3]
        refine wpAnyH_done (by kernel_rfl) ?_ _
        clear hHeld
        by_cases hc0 : c = 0
        ·obtain ⟨e3, n3⟩ := eq_facts hc0
         obtain ⟨hsu, hlu⟩ := HSu.out hc0
         have HSv := Lib.hid hsu
         have HLu := Lib.hid hlu
         clear hc0 hsu hlu HSu
         go_upto_region 8 with (fail)
         go_wp2_with (first | ((with_reducible refine wpList_load_ob 25 (.tmp 5) B241 (tbCells (.slice a9 u.held.length c9) (.slice d9 u.wait.length e9)) 25 HUT.out ?_ ?_ ?_ ?_ ?_); (exact rfl); (exact (HS245.out).get 3 rfl); (exact rfl); (exact info_tb); simp only [Act.put, List.setIfInBounds_toArray, List.set_cons_zero, List.set_cons_succ]) | ((with_reducible refine wpList_store_ob 25 (.tmp 3) b3 (tbCells (.slice a9 u.held.length c9) (.slice d9 u.wait.length e9)) (tbCells (.slice a t.held.length cap) (.slice a2 t.wait.length cap2)) 25 ?_ ?_ ?_ ?_ ?_ ?_ ?_); (exact rfl); (exact rfl); (exact (HS245.out).get 1 rfl); (exact info_tb); (exact rfl); (exact (oneCell_tb _ _ _ _ _ _)); skip))
         have HS246 : Hid (DrH w C [.ob b2 25 (tbCells (.slice none 0 0) (.slice none 0 0)), .ob b3 25 (tbCells (.slice a9 u.held.length c9) (.slice d9 u.wait.length e9)), .rd R, .ob B241 25 (tbCells (.slice a9 u.held.length c9) (.slice d9 u.wait.length e9)), .rd R9] (w244.setRow b3 (tbCells (.slice a9 u.held.length c9) (.slice d9 u.wait.length e9)).toArray)) := (HS245.out).row 1 rfl (tbCells (.slice a9 u.held.length c9) (.slice d9 u.wait.length e9))
         clear HS245
         generalize (w244.setRow b3 (tbCells (.slice a9 u.held.length c9) (.slice d9 u.wait.length e9)).toArray) = w245 at *
         have HS247 : Hid (DrH w C [.ob b2 25 (tbCells (.slice none 0 0) (.slice none 0 0)), .ob b3 25 (tbCells (.slice a9 u.held.length c9) (.slice d9 u.wait.length e9)), .rd R9] w245) := HS246.out.pull [0, 1, 4] rfl (pull_nd HS246.out.nd [0, 1, 4] rfl (by decide))
         clear HS246
         go_wp2_with fail
         go_roundw
         case rel => exact ⟨u, a9, d9, c9, e9, R9, i - 1, rfl, by have := HP.out; omega, by have := HI.out; have := HLu.out; omega, HSv.out, H9.out, HS247.out⟩
         case measure => simp [intOf]; have := HP.out; omega
        ·obtain ⟨e3, n3⟩ := ne_facts hc0
         clear hc0 HSu
         have HS253 : Hid (DrH w C [.ob b2 25 (tbCells (.slice none 0 0) (.slice none 0 0)), .ob b3 25 (tbCells (.slice a t.held.length cap) (.slice a2 t.wait.length cap2)), .rd R] w244) := HS245.out.pull [0, 1, 2] rfl (pull_nd HS245.out.nd [0, 1, 2] rfl (by decide))
         clear HS245
         go_wp2_with fail
         go_roundw
         case rel => exact ⟨t, a, a2, cap, cap2, R, i - 1, rfl, by have := HP.out; omega, by have := HI.out; omega, HSt.out, HRd.out, HS253.out⟩
         case measure => simp [intOf]; have := HP.out; omega
      ·rw [if_pos (by rfl)]
       refine wp_alloc_ob 25 (tbCells (.slice none 0 0) (.slice none 0 0)) rfl alloc_tb ?_
       have HS242 : Hid (DrH w C [.ob b2 25 (tbCells (.slice none 0 0) (.slice none 0 0)), .ob b3 25 (tbCells (.slice a t.held.length cap) (.slice a2 t.wait.length cap2)), .rd R, .ob (w241.heap.size) 25 (tbCells (.slice none 0 0) (.slice none 0 0))] (w241.alloc (.cells (tbCells (.slice none 0 0) (.slice none 0 0)).toArray 25))) := (HS241.out).put 25 (tbCells (.slice none 0 0) (.slice none 0 0))
       refine hK.out _ _ (trivial) (fun hHeld => ?_)
       clear hK K
       generalize (w241.alloc (.cells (tbCells (.slice none 0 0) (.slice none 0 0)).toArray 25)) = w242 at *
       generalize w241.heap.size = B241 at *
       try simp only [z0, z1, z2, z3]
       refine tn 0 qDrLk_13 (fun K hK => ?_)
       rw [if_pos (by rfl)]
       refine wp_load_whole 25 (.tmp 3) b3 (tbCells (.slice a t.held.length cap) (.slice a2 t.wait.length cap2)) 25 HUT.out rfl rfl ((HS242.out).get 1 rfl) rfl (info_tb) ?_
       have HS243 : Hid (DrH w C [.ob b2 25 (tbCells (.slice none 0 0) (.slice none 0 0)), .ob b3 25 (tbCells (.slice a t.held.length cap) (.slice a2 t.wait.length cap2)), .rd R, .ob B241 25 (tbCells (.slice none 0 0) (.slice none 0 0))] w242) := HS242.out
       refine hK.out _ _ (trivial) (fun hHeld => ?_)
       clear hK K
       try simp only [z0, z1, z2, z3]
       refine tn 3 qDrLk_16 (fun K hK => ?_)
       go_simp
       go_wp2_with (go_at_call 18; refine (tb3_as HUe.out (rrequest_any g _ HRd.out ((HS243.out).reads 2 rfl) HSt.out.ok.good HGo.out.good)).mono ?_; rintro e w243 ⟨h9, v9, R9, rfl, hrd2, hin2, hnew2, hb⟩)
       have hnew3 : ∀ r ∈ R9, w.heap.size ≤ r.1 := fun r hr => by
        rcases hnew2 r hr with h | h
        ·exact Nat.le_trans (HS243.out).bes.size h
        ·exact (HS243.out).off (.rd R) (List.mem_of_getElem? (i := 2) rfl) r.1 h
       obtain ⟨a9, c9, rfl, _, _⟩ := hrd2.1.shape
       obtain ⟨d9, e9, rfl, _, _⟩ := hrd2.2.shape
       have H9 := Lib.hid hrd2
       have HS244 : Hid (DrH w C [.ob b2 25 (tbCells (.slice none 0 0) (.slice none 0 0)), .ob b3 25 (tbCells (.slice a t.held.length cap) (.slice a2 t.wait.length cap2)), .rd R, .ob B241 25 (tbCells (.slice none 0 0) (.slice none 0 0)), .rd R9] w243) := (HS243.out).addrd hb R9 hin2 (fun r hr => (hnew2 r hr).elim .inl (fun h => .inr ⟨.rd R, List.mem_of_getElem? (i := 2) rfl, h⟩))
       refine hK.out _ _ (trivial) (fun hHeld => ?_)
       clear hK K hb hin2 hrd2 hnew2 hnew3
       try simp only [z0, z1, z2, z3]
       refine tk 4 qDrLk_17 (some 16) (v := ?q257v) (Or.inl ⟨by rfl, ?q257h⟩) hHeld ?q257r
       case q257h => (intro wq hSw; clear hSw; go_simp; try with_reducible rfl)
       try simp only [z0, z1, z2, z3]
       refine tk 5 qDrLk_18 (some 21) (v := .agg (tbCells (.slice a9 u.held.length c9) (.slice d9 u.wait.length e9)).toArray) (Or.inl ⟨by rfl, ?q258h⟩) hHeld ?q258r
       case q258h => (intro wq hSw; clear hSw; go_simp; try with_reducible rfl)
       try simp only [z0, z1, z2, z3]
       refine tk 6 qDrLk_19 (some 22) (v := .bool b) (Or.inl ⟨by rfl, ?q259h⟩) hHeld ?q259r
       case q259h => (intro wq hSw; clear hSw; go_simp; try with_reducible rfl)
       try simp only [z0, z1, z2, z3]
       refine tk 7 qDrLk_20 (some 23) (v := .int .i64 c) (Or.inl ⟨by rfl, ?q260h⟩) hHeld ?q260r
       case q260h => (intro wq hSw; clear hSw; go_simp; try with_reducible rfl)
       try simp only [z0, z1, z2, z3]
       refine tn 9 qDrLk_21 (fun K hK => ?_)
       rw [if_pos (by rfl)]
       refine wp_store_ob 25 (.tmp 5) (.tmp 21) B241 (tbCells (.slice a9 u.held.length c9) (.slice d9 u.wait.length e9)) (tbCells (.slice none 0 0) (.slice none 0 0)) 25 rfl rfl rfl rfl ((HS244.out).get 3 rfl) (info_tb) (rfl) ((oneCell_tb _ _ _ _ _ _)) ?_
       have HS245 : Hid (DrH w C [.ob b2 25 (tbCells (.slice none 0 0) (.slice none 0 0)), .ob b3 25 (tbCells (.slice a t.held.length cap) (.slice a2 t.wait.length cap2)), .rd R, .ob B241 25 (tbCells (.slice a9 u.held.length c9) (.slice d9 u.wait.length e9)), .rd R9] (w243.setRow B241 (tbCells (.slice a9 u.held.length c9) (.slice d9 u.wait.length e9)).toArray)) := (HS244.out).row 3 rfl (tbCells (.slice a9 u.held.length c9) (.slice d9 u.wait.length e9))
       refine hK.out _ _ (trivial) (fun hHeld => ?_)
       clear hK K
       generalize (w243.setRow B241 (tbCells (.slice a9 u.held.length c9) (.slice d9 u.wait.length e9)).toArray) = w244 at *
       try simp only [z0, z1, z2, z3]
       refine tk 10 qDrLk_22 (some 6) (v := ?q261v) (Or.inl ⟨by rfl, ?q261h⟩) hHeld ?q261r
       case q261h => (intro wq hSw; clear hSw; go_simp; try with_reducible rfl)
       try simp only [z0, z1, z2, z3]
       refine tk 11 qDrLk_23 (some 7) (v := ?q262v) (Or.inl ⟨by rfl, ?q262h⟩) hHeld ?q262r
       case q262h => (intro wq hSw; clear hSw; go_simp; try with_reducible rfl)
       try simp only [z0, z1, z2, z3]
       refine wpAnyH_done (by kernel_rfl) ?_ _
       clear hHeld
       by_cases hc0 : c = 0
       ·obtain ⟨e3, n3⟩ := eq_facts hc0
        obtain ⟨hsu, hlu⟩ := HSu.out hc0
        have HSv := Lib.hid hsu
        have HLu := Lib.hid hlu
        clear hc0 hsu hlu HSu
        go_upto_region 8 with (fail)
        go_wp2_with (first | ((with_reducible refine wpList_load_ob 25 (.tmp 5) B241 (tbCells (.slice a9 u.held.length c9) (.slice d9 u.wait.length e9)) 25 HUT.out ?_ ?_ ?_ ?_ ?_); (exact rfl); (exact (HS245.out).get 3 rfl); (exact rfl); (exact info_tb); simp only [Act.put, List.setIfInBounds_toArray, List.set_cons_zero, List.set_cons_succ]) | ((with_reducible refine wpList_store_ob 25 (.tmp 3) b3 (tbCells (.slice a9 u.held.length c9) (.slice d9 u.wait.length e9)) (tbCells (.slice a t.held.length cap) (.slice a2 t.wait.length cap2)) 25 ?_ ?_ ?_ ?_ ?_ ?_ ?_); (exact rfl); (exact rfl); (exact (HS245.out).get 1 rfl); (exact info_tb); (exact rfl); (exact (oneCell_tb _ _ _ _ _ _)); skip))
        have HS246 : Hid (DrH w C [.ob b2 25 (tbCells (.slice none 0 0) (.slice none 0 0)), .ob b3 25 (tbCells (.slice a9 u.held.length c9) (.slice d9 u.wait.length e9)), .rd R, .ob B241 25 (tbCells (.slice a9 u.held.length c9) (.slice d9 u.wait.length e9)), .rd R9] (w244.setRow b3 (tbCells (.slice a9 u.held.length c9) (.slice d9 u.wait.length e9)).toArray)) := (HS245.out).row 1 rfl (tbCells (.slice a9 u.held.length c9) (.slice d9 u.wait.length e9))
        clear HS245
        generalize (w244.setRow b3 (tbCells (.slice a9 u.held.length c9) (.slice d9 u.wait.length e9)).toArray) = w245 at *
        have HS247 : Hid (DrH w C [.ob b2 25 (tbCells (.slice none 0 0) (.slice none 0 0)), .ob b3 25 (tbCells (.slice a9 u.held.length c9) (.slice d9 u.wait.length e9)), .rd R9] w245) := HS246.out.pull [0, 1, 4] rfl (pull_nd HS246.out.nd [0, 1, 4] rfl (by decide))
        clear HS246
        go_wp2_with fail
        go_roundw
        case rel => exact ⟨u, a9, d9, c9, e9, R9, i - 1, rfl, by have := HP.out; omega, by have := HI.out; have := HLu.out; omega, HSv.out, H9.out, HS247.out⟩
        case measure => simp [intOf]; have := HP.out; omega
       ·obtain ⟨e3, n3⟩ := ne_facts hc0
        clear hc0 HSu
        have HS253 : Hid (DrH w C [.ob b2 25 (tbCells (.slice none 0 0) (.slice none 0 0)), .ob b3 25 (tbCells (.slice a t.held.length cap) (.slice a2 t.wait.length cap2)), .rd R] w244) := HS245.out.pull [0, 1, 2] rfl (pull_nd HS245.out.nd [0, 1, 2] rfl (by decide))
        clear HS245
        go_wp2_with fail
        go_roundw
        case rel => exact ⟨t, a, a2, cap, cap2, R, i - 1, rfl, by have := HP.out; omega, by have := HI.out; omega, HSt.out, HRd.out, HS253.out⟩
        case measure => simp [intOf]; have := HP.out; omega
     ·rw [if_pos (by rfl)]
      refine wp_alloc_ob 25 (tbCells (.slice none 0 0) (.slice none 0 0)) rfl alloc_tb ?_
      have HS241 : Hid (DrH w C [.ob b2 25 (tbCells (.slice none 0 0) (.slice none 0 0)), .ob b3 25 (tbCells (.slice a t.held.length cap) (.slice a2 t.wait.length cap2)), .rd R, .ob (w3.drew.heap.size) 25 (tbCells (.slice none 0 0) (.slice none 0 0))] (w3.drew.alloc (.cells (tbCells (.slice none 0 0) (.slice none 0 0)).toArray 25))) := ((HY2.out).drew).put 25 (tbCells (.slice none 0 0) (.slice none 0 0))
      refine hK.out _ _ (trivial) (fun hHeld => ?_)
      clear hK K
      generalize (w3.drew.alloc (.cells (tbCells (.slice none 0 0) (.slice none 0 0)).toArray 25)) = w241 at *
      generalize w3.drew.heap.size = B241 at *
      try simp only [z0, z1, z2, z3]
      refine wpAnyH_ready (rs := [0, 2]) (by kernel_rfl) (by simp) ?_
      refine AllReadyH.cons (o := qDrLk_13) rfl (fun K hK => ?_) (AllReadyH.cons (o := qDrLk_14) rfl (fun K hK => ?_) (AllReadyH.nil))
      ·rw [if_pos (by rfl)]
       refine wp_load_whole 25 (.tmp 3) b3 (tbCells (.slice a t.held.length cap) (.slice a2 t.wait.length cap2)) 25 HUT.out rfl rfl ((HS241.out).get 1 rfl) rfl (info_tb) ?_
       have HS242 : Hid (DrH w C [.ob b2 25 (tbCells (.slice none 0 0) (.slice none 0 0)), .ob b3 25 (tbCells (.slice a t.held.length cap) (.slice a2 t.wait.length cap2)), .rd R, .ob B241 25 (tbCells (.slice none 0 0) (.slice none 0 0))] w241) := HS241.out
       refine hK.out _ _ (trivial) (fun hHeld => ?_)
       clear hK K
       try simp only [z0, z1, z2, z3]
       refine tn 2 qDrLk_14 (fun K hK => ?_)
       go_simp
       go_wp2_with (go_at_call 14; refine (grant_any C _ (HS242.out).codes).mono ?_; rintro e w242 ⟨g, rfl, hgo, hb, hc, _⟩)
       have HS243 : Hid (DrH w C [.ob b2 25 (tbCells (.slice none 0 0) (.slice none 0 0)), .ob b3 25 (tbCells (.slice a t.held.length cap) (.slice a2 t.wait.length cap2)), .rd R, .ob B241 25 (tbCells (.slice none 0 0) (.slice none 0 0))] w242) := (HS242.out).draws hb hc
       refine hK.out _ _ (trivial) (fun hHeld => ?_)
       clear hK K hb hc
       obtain ⟨u, b, c, hu⟩ : ∃ u b c, requestR t g = (u, b, c) := ⟨_, _, _, rfl⟩
       have HUe := Lib.hid hu
       have HSu : Hid (c = 0 → Settled u ∧ tbLen u ≤ tbLen t + 1) := Lib.hid (fun hc0 => by have h := request_ok HSt.out.ok (g := g) (by rw [hu]; exact hc0); rw [hu] at h; exact ⟨⟨h.1, h.2.1 HSt.out.stuck⟩, h.2.2.2⟩)
       have HGo := Lib.hid hgo
       clear hu hgo
       try simp only [z0, z1, z2, z3]
       refine tn 3 qDrLk_16 (fun K hK => ?_)
       go_simp
       go_wp2_with (go_at_call 18; refine (tb3_as HUe.out (rrequest_any g _ HRd.out ((HS243.out).reads 2 rfl) HSt.out.ok.good HGo.out.good)).mono ?_; rintro e w243 ⟨h9, v9, R9, rfl, hrd2, hin2, hnew2, hb⟩)
       have hnew3 : ∀ r ∈ R9, w.heap.size ≤ r.1 := fun r hr => by
        rcases hnew2 r hr with h | h
        ·exact Nat.le_trans (HS243.out).bes.size h
        ·exact (HS243.out).off (.rd R) (List.mem_of_getElem? (i := 2) rfl) r.1 h
       obtain ⟨a9, c9, rfl, _, _⟩ := hrd2.1.shape
       obtain ⟨d9, e9, rfl, _, _⟩ := hrd2.2.shape
       have H9 := Lib.hid hrd2
       have HS244 : Hid (DrH w C [.ob b2 25 (tbCells (.slice none 0 0) (.slice none 0 0)), .ob b3 25 (tbCells (.slice a t.held.length cap) (.slice a2 t.wait.length cap2)), .rd R, .ob B241 25 (tbCells (.slice none 0 0) (.slice none 0 0)), .rd R9] w243) := (HS243.out).addrd hb R9 hin2 (fun r hr => (hnew2 r hr).elim .inl (fun h => .inr ⟨.rd R, List.mem_of_getElem? (i := 2) rfl, h⟩))
       refine hK.out _ _ (trivial) (fun hHeld => ?_)
       clear hK K hb hin2 hrd2 hnew2 hnew3
       try simp only [z0, z1, z2, z3]
       refine tk 4 qDrLk_17 (some 16) (v := ?q268v) (Or.inl ⟨by rfl, ?q268h⟩) hHeld ?q268r
       case q268h => (intro wq hSw; clear hSw; go_simp; try with_reducible rfl)
       try simp only [z0, z1, z2, z3]
       refine tk 5 qDrLk_18 (some 21) (v := .agg (tbCells (.slice a9 u.held.length c9) (.slice d9 u.wait.length e9)).toArray) (Or.inl ⟨by rfl, ?q269h⟩) hHeld ?q269r
       case q269h => (intro wq hSw; clear hSw; go_simp; try with_reducible rfl)
       try simp only [z0, z1, z2, z3]
       refine tk 6 qDrLk_19 (some 22) (v := .bool b) (Or.inl ⟨by rfl, ?q270h⟩) hHeld ?q270r
       case q270h => (intro wq hSw; clear hSw; go_simp; try with_reducible rfl)
       try simp only [z0, z1, z2, z3]
       refine tk 7 qDrLk_20 (some 23) (v := .int .i64 c) (Or.inl ⟨by rfl, ?q271h⟩) hHeld ?q271r
       case q271h => (intro wq hSw; clear hSw; go_simp; try with_reducible rfl)
       try simp only [z0, z1, z2, z3]
       refine tn 9 qDrLk_21 (fun K hK => ?_)
       rw [if_pos (by rfl)]
       refine wp_store_ob 25 (.tmp 5) (.tmp 21) B241 (tbCells (.slice a9 u.held.length c9) (.slice d9 u.wait.length e9)) (tbCells (.slice none 0 0) (.slice none 0 0)) 25 rfl rfl rfl rfl ((HS244.out).get 3 rfl) (info_tb) (rfl) ((oneCell_tb _ _ _ _ _ _)) ?_
       have HS245 : Hid (DrH w C [.ob b2 25 (tbCells (.slice none 0 0) (.slice none 0 0)), .ob b3 25 (tbCells (.slice a t.held.length cap) (.slice a2 t.wait.length cap2)), .rd R, .ob B241 25 (tbCells (.slice a9 u.held.length c9) (.slice d9 u.wait.length e9)), .rd R9] (w243.setRow B241 (tbCells (.slice a9 u.held.length c9) (.slice d9 u.wait.length e9)).toArray)) := (HS244.out).row 3 rfl (tbCells (.slice a9 u.held.length c9) (.slice d9 u.wait.length e9))
       refine hK.out _ _ (trivial) (fun hHeld => ?_)
       clear hK K
       generalize (w243.setRow B241 (tbCells (.slice a9 u.held.length c9) (.slice d9 u.wait.length e9)).toArray) = w244 at *
       try simp only [z0, z1, z2, z3]
       refine tk 10 qDrLk_22 (some 6) (v := ?q272v) (Or.inl ⟨by rfl, ?q272h⟩) hHeld ?q272r
       case q272h => (intro wq hSw; clear hSw; go_simp; try with_reducible rfl)
       try simp only [z0, z1, z2, z3]
       refine tk 11 qDrLk_23 (some 7) (v := ?q273v) (Or.inl ⟨by rfl, ?q273h⟩) hHeld ?q273r
       case q273h => (intro wq hSw; clear hSw; go_simp; try with_reducible rfl)
       try simp only [z0, z1, z2, z3]
       refine wpAnyH_done (by kernel_rfl) ?_ _
       clear hHeld
       by_cases hc0 : c = 0
       ·obtain ⟨e3, n3⟩ := eq_facts hc0
        obtain ⟨hsu, hlu⟩ := HSu.out hc0
        have HSv := Lib.hid hsu
        have HLu := Lib.hid hlu
        clear hc0 hsu hlu HSu
        go_upto_region 8 with (fail)
        go_wp2_with (first | ((with_reducible refine wpList_load_ob 25 (.tmp 5) B241 (tbCells (.slice a9 u.held.length c9) (.slice d9 u.wait.length e9)) 25 HUT.out ?_ ?_ ?_ ?_ ?_); (exact rfl); (exact (HS245.out).get 3 rfl); (exact rfl); (exact info_tb); simp only [Act.put, List.setIfInBounds_toArray, List.set_cons_zero, List.set_cons_succ]) | ((with_reducible refine wpList_store_ob 25 (.tmp 3) b3 (tbCells (.slice a9 u.held.length c9) (.slice d9 u.wait.length e9)) (tbCells (.slice a t.held.length cap) (.slice a2 t.wait.length cap2)) 25 ?_ ?_ ?_ ?_ ?_ ?_ ?_); (exact rfl); (exact rfl); (exact (HS245.out).get 1 rfl); (exact info_tb); (exact rfl); (exact (oneCell_tb _ _ _ _ _ _)); skip))
        have HS246 : Hid (DrH w C [.ob b2 25 (tbCells (.slice none 0 0) (.slice none 0 0)), .ob b3 25 (tbCells (.slice a9 u.held.length c9) (.slice d9 u.wait.length e9)), .rd R, .ob B241 25 (tbCells (.slice a9 u.held.length c9) (.slice d9 u.wait.length e9)), .rd R9] (w244.setRow b3 (tbCells (.slice a9 u.held.length c9) (.slice d9 u.wait.length e9)).toArray)) := (HS245.out).row 1 rfl (tbCells (.slice a9 u.held.length c9) (.slice d9 u.wait.length e9))
        clear HS245
        generalize (w244.setRow b3 (tbCells (.slice a9 u.held.length c9) (.slice d9 u.wait.length e9)).toArray) = w245 at *
        have HS247 : Hid (DrH w C [.ob b2 25 (tbCells (.slice none 0 0) (.slice none 0 0)), .ob b3 25 (tbCells (.slice a9 u.held.length c9) (.slice d9 u.wait.length e9)), .rd R9] w245) := HS246.out.pull [0, 1, 4] rfl (pull_nd HS246.out.nd [0, 1, 4] rfl (by decide))
        clear HS246
        go_wp2_with fail
        go_roundw
        case rel => exact ⟨u, a9, d9, c9, e9, R9, i - 1, rfl, by have := HP.out; omega, by have := HI.out; have := HLu.out; omega, HSv.out, H9.out, HS247.out⟩
        case measure => simp [intOf]; have := HP.out; omega
       ·obtain ⟨e3, n3⟩ := ne_facts hc0
        clear hc0 HSu
        have HS253 : Hid (DrH w C [.ob b2 25 (tbCells (.slice none 0 0) (.slice none 0 0)), .ob b3 25 (tbCells (.slice a t.held.length cap) (.slice a2 t.wait.length cap2)), .rd R] w244) := HS245.out.pull [0, 1, 2] rfl (pull_nd HS245.out.nd [0, 1, 2] rfl (by decide))
        clear HS245
        go_wp2_with fail
        go_roundw
        case rel => exact ⟨t, a, a2, cap, cap2, R, i - 1, rfl, by have := HP.out; omega, by have := HI.out; omega, HSt.out, HRd.out, HS253.out⟩
        case measure => simp [intOf]; have := HP.out; omega
      ·go_simp
       go_wp2_with (go_at_call 14; refine (grant_any C _ (HS241.out).codes).mono ?_; rintro e w242 ⟨g, rfl, hgo, hb, hc, _⟩)
       have HS242 : Hid (DrH w C [.ob b2 25 (tbCells (.slice none 0 0) (.slice none 0 0)), .ob b3 25 (tbCells (.slice a t.held.length cap) (.slice a2 t.wait.length cap2)), .rd R, .ob B241 25 (tbCells (.slice none 0 0) (.slice none 0 0))] w242) := (HS241.out).draws hb hc
       refine hK.out _ _ (trivial) (fun hHeld => ?_)
       clear hK K hb hc
       obtain ⟨u, b, c, hu⟩ : ∃ u b c, requestR t g = (u, b, c) := ⟨_, _, _, rfl⟩
       have HUe := Lib.hid hu
       have HSu : Hid (c = 0 → Settled u ∧ tbLen u ≤ tbLen t + 1) := Lib.hid (fun hc0 => by have h := request_ok HSt.out.ok (g := g) (by rw [hu]; exact hc0); rw [hu] at h; exact ⟨⟨h.1, h.2.1 HSt.out.stuck⟩, h.2.2.2⟩)
       have HGo := Lib.hid hgo
       clear hu hgo
       try simp only [z0, z1, z2, z3]
       refine tn 0 qDrLk_13 (fun K hK => ?_)
       rw [if_pos (by rfl)]
       refine wp_load_whole 25 (.tmp 3) b3 (tbCells (.slice a t.held.length cap) (.slice a2 t.wait.length cap2)) 25 HUT.out rfl rfl ((HS242.out).get 1 rfl) rfl (info_tb) ?_
       have HS243 : Hid (DrH w C [.ob b2 25 (tbCells (.slice none 0 0) (.slice none 0 0)), .ob b3 25 (tbCells (.slice a t.held.length cap) (.slice a2 t.wait.length cap2)), .rd R, .ob B241 25 (tbCells (.slice none 0 0) (.slice none 0 0))] w242) := HS242.out
       refine hK.out _ _ (trivial) (fun hHeld => ?_)
       clear hK K
       try simp only [z0, z1, z2, z3]
       refine tn 3 qDrLk_16 (fun K hK => ?_)
       go_simp
       go_wp2_with (go_at_call 18; refine (tb3_as HUe.out (rrequest_any g _ HRd.out ((HS243.out).reads 2 rfl) HSt.out.ok.good HGo.out.good)).mono ?_; rintro e w243 ⟨h9, v9, R9, rfl, hrd2, hin2, hnew2, hb⟩)
       have hnew3 : ∀ r ∈ R9, w.heap.size ≤ r.1 := fun r hr => by
        rcases hnew2 r hr with h | h
        ·exact Nat.le_trans (HS243.out).bes.size h
        ·exact (HS243.out).off (.rd R) (List.mem_of_getElem? (i := 2) rfl) r.1 h
       obtain ⟨a9, c9, rfl, _, _⟩ := hrd2.1.shape
       obtain ⟨d9, e9, rfl, _, _⟩ := hrd2.2.shape
       have H9 := Lib.hid hrd2
       have HS244 : Hid (DrH w C [.ob b2 25 (tbCells (.slice none 0 0) (.slice none 0 0)), .ob b3 25 (tbCells (.slice a t.held.length cap) (.slice a2 t.wait.length cap2)), .rd R, .ob B241 25 (tbCells (.slice none 0 0) (.slice none 0 0)), .rd R9] w243) := (HS243.out).addrd hb R9 hin2 (fun r hr => (hnew2 r hr).elim .inl (fun h => .inr ⟨.rd R, List.mem_of_getElem? (i := 2) rfl, h⟩))
       refine hK.out _ _ (trivial) (fun hHeld => ?_)
       clear hK K hb hin2 hrd2 hnew2 hnew3
       try simp only [z0, z1, z2, z3]
       refine tk 4 qDrLk_17 (some 16) (v := ?q279v) (Or.inl ⟨by rfl, ?q279h⟩) hHeld ?q279r
       case q279h => (intro wq hSw; clear hSw; go_simp; try with_reducible rfl)
       try simp only [z0, z1, z2, z3]
       refine tk 5 qDrLk_18 (some 21) (v := .agg (tbCells (.slice a9 u.held.length c9) (.slice d9 u.wait.length e9)).toArray) (Or.inl ⟨by rfl, ?q280h⟩) hHeld ?q280r
       case q280h => (intro wq hSw; clear hSw; go_simp; try with_reducible rfl)
       try simp only [z0, z1, z2, z3]
       refine tk 6 qDrLk_19 (some 22) (v := .bool b) (Or.inl ⟨by rfl, ?q281h⟩) hHeld ?q281r
       case q281h => (intro wq hSw; clear hSw; go_simp; try with_reducible rfl)
       try simp only [z0, z1, z2, z3]
       refine tk 7 qDrLk_20 (some 23) (v := .int .i64 c) (Or.inl ⟨by rfl, ?q282h⟩) hHeld ?q282r
       case q282h => (intro wq hSw; clear hSw; go_simp; try with_reducible rfl)
       try simp only [z0, z1, z2, z3]
       refine tn 9 qDrLk_21 (fun K hK => ?_)
       rw [if_pos (by rfl)]
       refine wp_store_ob 25 (.tmp 5) (.tmp 21) B241 (tbCells (.slice a9 u.held.length c9) (.slice d9 u.wait.length e9)) (tbCells (.slice none 0 0) (.slice none 0 0)) 25 rfl rfl rfl rfl ((HS244.out).get 3 rfl) (info_tb) (rfl) ((oneCell_tb _ _ _ _ _ _)) ?_
       have HS245 : Hid (DrH w C [.ob b2 25 (tbCells (.slice none 0 0) (.slice none 0 0)), .ob b3 25 (tbCells (.slice a t.held.length cap) (.slice a2 t.wait.length cap2)), .rd R, .ob B241 25 (tbCells (.slice a9 u.held.length c9) (.slice d9 u.wait.length e9)), .rd R9] (w243.setRow B241 (tbCells (.slice a9 u.held.length c9) (.slice d9 u.wait.length e9)).toArray)) := (HS244.out).row 3 rfl (tbCells (.slice a9 u.held.length c9) (.slice d9 u.wait.length e9))
       refine hK.out _ _ (trivial) (fun hHeld => ?_)
       clear hK K
       generalize (w243.setRow B241 (tbCells (.slice a9 u.held.length c9) (.slice d9 u.wait.length e9)).toArray) = w244 at *
       try simp only [z0, z1, z2, z3]
       refine tk 10 qDrLk_22 (some 6) (v := ?q283v) (Or.inl ⟨by rfl, ?q283h⟩) hHeld ?q283r
       case q283h => (intro wq hSw; clear hSw; go_simp; try with_reducible rfl)
       try simp only [z0, z1, z2, z3]
       refine tk 11 qDrLk_23 (some 7) (v := ?q284v) (Or.inl ⟨by rfl, ?q284h⟩) hHeld ?q284r
       case q284h => (intro wq hSw; clear hSw; go_simp; try with_reducible rfl)
       try simp only [z0, z1, z2, z3]
       refine wpAnyH_done (by kernel_rfl) ?_ _
       clear hHeld
       by_cases hc0 : c = 0
       ·obtain ⟨e3, n3⟩ := eq_facts hc0
        obtain ⟨hsu, hlu⟩ := HSu.out hc0
        have HSv := Lib.hid hsu
        have HLu := Lib.hid hlu
        clear hc0 hsu hlu HSu
        go_upto_region 8 with (fail)
        go_wp2_with (first | ((with_reducible refine wpList_load_ob 25 (.tmp 5) B241 (tbCells (.slice a9 u.held.length c9) (.slice d9 u.wait.length e9)) 25 HUT.out ?_ ?_ ?_ ?_ ?_); (exact rfl); (exact (HS245.out).get 3 rfl); (exact rfl); (exact info_tb); simp only [Act.put, List.setIfInBounds_toArray, List.set_cons_zero, List.set_cons_succ]) | ((with_reducible refine wpList_store_ob 25 (.tmp 3) b3 (tbCells (.slice a9 u.held.length c9) (.slice d9 u.wait.length e9)) (tbCells (.slice a t.held.length cap) (.slice a2 t.wait.length cap2)) 25 ?_ ?_ ?_ ?_ ?_ ?_ ?_); (exact rfl); (exact rfl); (exact (HS245.out).get 1 rfl); (exact info_tb); (exact rfl); (exact (oneCell_tb _ _ _ _ _ _)); skip))
        have HS246 : Hid (DrH w C [.ob b2 25 (tbCells (.slice none 0 0) (.slice none 0 0)), .ob b3 25 (tbCells (.slice a9 u.held.length c9) (.slice d9 u.wait.length e9)), .rd R, .ob B241 25 (tbCells (.slice a9 u.held.length c9) (.slice d9 u.wait.length e9)), .rd R9] (w244.setRow b3 (tbCells (.slice a9 u.held.length c9) (.slice d9 u.wait.length e9)).toArray)) := (HS245.out).row 1 rfl (tbCells (.slice a9 u.held.length c9) (.slice d9 u.wait.length e9))
        clear HS245
        generalize (w244.setRow b3 (tbCells (.slice a9 u.held.length c9) (.slice d9 u.wait.length e9)).toArray) = w245 at *
        have HS247 : Hid (DrH w C [.ob b2 25 (tbCells (.slice none 0 0) (.slice none 0 0)), .ob b3 25 (tbCells (.slice a9 u.held.length c9) (.slice d9 u.wait.length e9)), .rd R9] w245) := HS246.out.pull [0, 1, 4] rfl (pull_nd HS246.out.nd [0, 1, 4] rfl (by decide))
        clear HS246
        go_wp2_with fail
        go_roundw
        case rel => exact ⟨u, a9, d9, c9, e9, R9, i - 1, rfl, by have := HP.out; omega, by have := HI.out; have := HLu.out; omega, HSv.out, H9.out, HS247.out⟩
        case measure => simp [intOf]; have := HP.out; omega
       ·obtain ⟨e3, n3⟩ := ne_facts hc0
        clear hc0 HSu
        have HS253 : Hid (DrH w C [.ob b2 25 (tbCells (.slice none 0 0) (.slice none 0 0)), .ob b3 25 (tbCells (.slice a t.held.length cap) (.slice a2 t.wait.length cap2)), .rd R] w244) := HS245.out.pull [0, 1, 2] rfl (pull_nd HS245.out.nd [0, 1, 2] rfl (by decide))
        clear HS245
        go_wp2_with fail
        go_roundw
        case rel => exact ⟨t, a, a2, cap, cap2, R, i - 1, rfl, by have := HP.out; omega, by have := HI.out; omega, HSt.out, HRd.out, HS253.out⟩
        case measure => simp [intOf]; have := HP.out; omega
  ·have hid0 : decide (0 < i) = false := decide_eq_false hi
   have HLn : Hid (tbLen t ≤ 13) := Lib.hid (by omega)
   clear hi hi0 hi13 HI
   go_upto_region 13 with (fail)
   go_wp2_with (first | ((with_reducible refine wpList_load_ob 25 (.tmp 3) b3 (tbCells (.slice a t.held.length cap) (.slice a2 t.wait.length cap2)) 25 HUT.out ?_ ?_ ?_ ?_ ?_); (exact rfl); (exact (HY.out).get 1 rfl); (exact rfl); (exact info_tb); simp only [Act.put, List.setIfInBounds_toArray, List.set_cons_zero, List.set_cons_succ]) | ((with_reducible refine wpList_store_ob 25 (.tmp 2) b2 (tbCells (.slice a t.held.length cap) (.slice a2 t.wait.length cap2)) (tbCells (.slice none 0 0) (.slice none 0 0)) 25 ?_ ?_ ?_ ?_ ?_ ?_ ?_); (exact rfl); (exact rfl); (exact (HY.out).get 0 rfl); (exact info_tb); (exact rfl); (exact (oneCell_tb _ _ _ _ _ _)); skip))
   have HS641 : Hid (DrH w C [.ob b2 25 (tbCells (.slice a t.held.length cap) (.slice a2 t.wait.length cap2)), .ob b3 25 (tbCells (.slice a t.held.length cap) (.slice a2 t.wait.length cap2)), .rd R] (wr.setRow b2 (tbCells (.slice a t.held.length cap) (.slice a2 t.wait.length cap2)).toArray)) := (HY.out).row 0 rfl (tbCells (.slice a t.held.length cap) (.slice a2 t.wait.length cap2))
   clear HY
   generalize (wr.setRow b2 (tbCells (.slice a t.held.length cap) (.slice a2 t.wait.length cap2)).toArray) = w641 at *
   refine bodyPost_ret (results_ob Try.results10 _ _ b2 (tbCells (.slice a t.held.length cap) (.slice a2 t.wait.length cap2)) 25 _ rfl ((HS641.out).get 0 rfl) HUT.out rfl info_tb) rfl ?_
   exact ⟨t, _, _, R, rfl, HSt.out, HLn.out, HRd.out, (HS641.out).reads 2 rfl, fun r hr => (HS641.out).off (.rd R) (List.mem_of_getElem? (i := 2) rfl) r.1 (List.mem_map.2 ⟨r, hr, rfl⟩), (HS641.out).bes, (HS641.out).codes⟩
end Go.Proofs.Ytcnaalbpbalgdaa
/- the sanity check of the laws of chapter 8 -/
namespace Go.Proofs.Ytcnaalbpbalgdaa
open Go.RowKit
set_option maxRecDepth 20000
set_option linter.unusedSimpArgs false
set_option linter.unusedVariables false

theorem build_lk1 (p : Int) (W : World) : Sem.run Try.prog (Instr.build 27 #[(0, .int .i64 p)]) W = .ok (.agg (lkCells ⟨p, 0⟩).toArray) W := by kernel_rfl
theorem build_kx (tx m : Int) (W : World) : Sem.run Try.prog (Instr.build 29 #[(0, .int .i64 tx), (1, .agg (lkCells ⟨1, 0⟩).toArray), (2, .int .i64 m)]) W = .ok (.agg (grCells (kx tx m)).toArray) W := by kernel_rfl
set_option maxHeartbeats 8000000 in
theorem awake8 (w : World) : Calls Try.prog 8 #[] w fun e w' => e = .returned (.bool true) ∧ Below w.heap.size w w' := by
  obtain ⟨t1, t2, t3, t4, ⟨e1, o1⟩, ⟨e2, o2⟩, ⟨e3, o3⟩, ⟨e4, o4⟩, e5⟩ := awake_facts
  have HE1 := Lib.hid e1
  have HE2 := Lib.hid e2
  have HE3 := Lib.hid e3
  have HE4 := Lib.hid e4
  have HE5 := Lib.hid e5
  have HO1 := Lib.hid o1.good
  have HO2 := Lib.hid o2.good
  have HO3 := Lib.hid o3.good
  have HO4 := Lib.hid o4.good
  have HK : Hid (∀ tx m, (tx = 1 ∨ tx = 2) → (m = 1 ∨ m = 2) → GoodGr (kx tx m)) := Lib.hid (fun tx m h1 h2 => (kx_ok h1 h2).good)
  have HN : Hid (GoodTb tbNil) := Lib.hid tbNil_ok.good
  clear e1 e2 e3 e4 e5 o1 o2 o3 o4
  obtain ⟨fsHUG, huHUG⟩ := under_gr
  have HUG := Lib.hid huHUG
  clear huHUG
  obtain ⟨fsHUK, huHUK⟩ := under_lk
  have HUK := Lib.hid huHUK
  clear huHUK
  obtain ⟨fsHUT, huHUT⟩ := under_tb
  have HUT := Lib.hid huHUT
  clear huHUT
  have HS0 := Lib.hid (Hp.start w)
  go_enter Try.func8, Try.ntmps8
  go_wp2_with (first | ((with_reducible refine wpList_build_v (d := some 9) 27 (.agg (lkCells (⟨1, 0⟩ : Lok)).toArray) ?_ ?_); (intro W; simp only [List.map_toArray, List.map_cons, List.map_nil]; exact build_lk1 _ W); simp only [Act.put, List.setIfInBounds_toArray, List.set_cons_zero, List.set_cons_succ]) | ((with_reducible refine wpList_alloc_ob 27 (lkCells lkNil) ?_ ?_); (exact alloc_lk); simp only [Act.put, List.setIfInBounds_toArray, List.set_cons_zero, List.set_cons_succ]) | ((with_reducible refine wpList_store_ob 27 (.tmp 1) (w.heap.size) (lkCells (⟨1, 0⟩ : Lok)) (lkCells lkNil) 27 ?_ ?_ ?_ ?_ ?_ ?_ ?_); (exact rfl); (exact rfl); (exact ((HS0.out).put 27 (lkCells lkNil)).get 0 rfl); (exact info_lk); (exact rfl); (exact (oneCell_lk _)); skip) | ((with_reducible refine wpList_build_v (d := some 11) 25 (.agg (tbCells (.slice none 0 0) (.slice none 0 0)).toArray) ?_ ?_); (intro W; simp only [List.map_toArray, List.map_cons, List.map_nil]; exact build_tb0 W); simp only [Act.put, List.setIfInBounds_toArray, List.set_cons_zero, List.set_cons_succ]) | ((with_reducible refine wpList_load_ob 27 (.tmp 1) (w.heap.size) (lkCells (⟨1, 0⟩ : Lok)) 27 HUK.out ?_ ?_ ?_ ?_ ?_); (exact rfl); (exact (((HS0.out).put 27 (lkCells lkNil)).row 0 rfl (lkCells (⟨1, 0⟩ : Lok))).get 0 rfl); (exact rfl); (exact info_lk); simp only [Act.put, List.setIfInBounds_toArray, List.set_cons_zero, List.set_cons_succ]) | ((with_reducible refine wpList_build_v (d := some 13) 29 (.agg (grCells (kx 1 1)).toArray) ?_ ?_); (intro W; simp only [List.map_toArray, List.map_cons, List.map_nil]; exact build_kx _ _ W); simp only [Act.put, List.setIfInBounds_toArray, List.set_cons_zero, List.set_cons_succ]))
  refine (tb3_as HE1.out (prequest_any (kx 1 1) _ (TbRd.nil []) (RdIn.nil _) HN.out (HK.out _ _ (by decide) (by decide)))).mono ?_
  rintro e w1 ⟨h9, v9, R1, rfl, hrd2, hin2, hnew2, hb⟩
  obtain ⟨a1, c1, rfl, _, _⟩ := hrd2.1.shape
  obtain ⟨b1, d1, rfl, _, _⟩ := hrd2.2.shape
  have Hrd1 := Lib.hid hrd2
  have HS1 : Hid (Hp w [.ob (w.heap.size) 27 (lkCells (⟨1, 0⟩ : Lok)), .rd R1] w1) := (((HS0.out).put 27 (lkCells lkNil)).row 0 rfl (lkCells (⟨1, 0⟩ : Lok))).addrd hb R1 hin2 (fun r hr => (hnew2 r hr).elim .inl (fun h => .inr (absurd h (by simp))))
  clear hb hin2 hrd2 hnew2
  clear HS0
  go_wp2_with (first | ((with_reducible refine wpList_alloc_ob 25 (tbCells (.slice none 0 0) (.slice none 0 0)) ?_ ?_); (exact alloc_tb); simp only [Act.put, List.setIfInBounds_toArray, List.set_cons_zero, List.set_cons_succ]) | ((with_reducible refine wpList_store_ob 25 (.tmp 2) (w1.heap.size) (tbCells (.slice a1 t1.held.length c1) (.slice b1 t1.wait.length d1)) (tbCells (.slice none 0 0) (.slice none 0 0)) 25 ?_ ?_ ?_ ?_ ?_ ?_ ?_); (exact rfl); (exact rfl); (exact ((HS1.out).put 25 (tbCells (.slice none 0 0) (.slice none 0 0))).get 2 rfl); (exact info_tb); (exact rfl); (exact (oneCell_tb _ _ _ _ _ _)); skip) | ((with_reducible refine wpList_load_ob 25 (.tmp 2) (w1.heap.size) (tbCells (.slice a1 t1.held.length c1) (.slice b1 t1.wait.length d1)) 25 HUT.out ?_ ?_ ?_ ?_ ?_); (exact rfl); (exact (((HS1.out).put 25 (tbCells (.slice none 0 0) (.slice none 0 0))).row 2 rfl (tbCells (.slice a1 t1.held.length c1) (.slice b1 t1.wait.length d1))).get 2 rfl); (exact rfl); (exact info_tb); simp only [Act.put, List.setIfInBounds_toArray, List.set_cons_zero, List.set_cons_succ]) | ((with_reducible refine wpList_load_ob 27 (.tmp 1) (w.heap.size) (lkCells (⟨1, 0⟩ : Lok)) 27 HUK.out ?_ ?_ ?_ ?_ ?_); (exact rfl); (exact (((HS1.out).put 25 (tbCells (.slice none 0 0) (.slice none 0 0))).row 2 rfl (tbCells (.slice a1 t1.held.length c1) (.slice b1 t1.wait.length d1))).get 0 rfl); (exact rfl); (exact info_lk); simp only [Act.put, List.setIfInBounds_toArray, List.set_cons_zero, List.set_cons_succ]) | ((with_reducible refine wpList_build_v (d := some 21) 29 (.agg (grCells (kx 2 1)).toArray) ?_ ?_); (intro W; simp only [List.map_toArray, List.map_cons, List.map_nil]; exact build_kx _ _ W); simp only [Act.put, List.setIfInBounds_toArray, List.set_cons_zero, List.set_cons_succ]))
  refine (tb3_as HE2.out (prequest_any (kx 2 1) _ Hrd1.out ((((HS1.out).put 25 (tbCells (.slice none 0 0) (.slice none 0 0))).row 2 rfl (tbCells (.slice a1 t1.held.length c1) (.slice b1 t1.wait.length d1))).reads 1 rfl) HO1.out (HK.out _ _ (by decide) (by decide)))).mono ?_
  rintro e w2 ⟨h9, v9, R2, rfl, hrd2, hin2, hnew2, hb⟩
  obtain ⟨a2, c2, rfl, _, _⟩ := hrd2.1.shape
  obtain ⟨b2, d2, rfl, _, _⟩ := hrd2.2.shape
  have Hrd2 := Lib.hid hrd2
  have HS2 : Hid (Hp w [.ob (w.heap.size) 27 (lkCells (⟨1, 0⟩ : Lok)), .rd R1, .ob (w1.heap.size) 25 (tbCells (.slice a1 t1.held.length c1) (.slice b1 t1.wait.length d1)), .rd R2] w2) := (((HS1.out).put 25 (tbCells (.slice none 0 0) (.slice none 0 0))).row 2 rfl (tbCells (.slice a1 t1.held.length c1) (.slice b1 t1.wait.length d1))).addrd hb R2 hin2 (fun r hr => (hnew2 r hr).elim .inl (fun h => .inr ⟨.rd R1, List.mem_of_getElem? (i := 1) rfl, h⟩))
  clear hb hin2 hrd2 hnew2
  clear HS1
  generalize w1.heap.size = B1 at *
  go_wp2_with (first | ((with_reducible refine wpList_store_ob 25 (.tmp 2) B1 (tbCells (.slice a2 t2.held.length c2) (.slice b2 t2.wait.length d2)) (tbCells (.slice a1 t1.held.length c1) (.slice b1 t1.wait.length d1)) 25 ?_ ?_ ?_ ?_ ?_ ?_ ?_); (exact rfl); (exact rfl); (exact (HS2.out).get 2 rfl); (exact info_tb); (exact rfl); (exact (oneCell_tb _ _ _ _ _ _)); skip) | ((with_reducible refine wpList_load_ob 25 (.tmp 2) B1 (tbCells (.slice a2 t2.held.length c2) (.slice b2 t2.wait.length d2)) 25 HUT.out ?_ ?_ ?_ ?_ ?_); (exact rfl); (exact ((HS2.out).row 2 rfl (tbCells (.slice a2 t2.held.length c2) (.slice b2 t2.wait.length d2))).get 2 rfl); (exact rfl); (exact info_tb); simp only [Act.put, List.setIfInBounds_toArray, List.set_cons_zero, List.set_cons_succ]) | ((with_reducible refine wpList_load_ob 27 (.tmp 1) (w.heap.size) (lkCells (⟨1, 0⟩ : Lok)) 27 HUK.out ?_ ?_ ?_ ?_ ?_); (exact rfl); (exact ((HS2.out).row 2 rfl (tbCells (.slice a2 t2.held.length c2) (.slice b2 t2.wait.length d2))).get 0 rfl); (exact rfl); (exact info_lk); simp only [Act.put, List.setIfInBounds_toArray, List.set_cons_zero, List.set_cons_succ]) | ((with_reducible refine wpList_build_v (d := some 29) 29 (.agg (grCells (kx 1 2)).toArray) ?_ ?_); (intro W; simp only [List.map_toArray, List.map_cons, List.map_nil]; exact build_kx _ _ W); simp only [Act.put, List.setIfInBounds_toArray, List.set_cons_zero, List.set_cons_succ]))
  refine (tb3_as HE3.out (prequest_any (kx 1 2) _ Hrd2.out (((HS2.out).row 2 rfl (tbCells (.slice a2 t2.held.length c2) (.slice b2 t2.wait.length d2))).reads 3 rfl) HO2.out (HK.out _ _ (by decide) (by decide)))).mono ?_
  rintro e w3 ⟨h9, v9, R3, rfl, hrd2, hin2, hnew2, hb⟩
  obtain ⟨a3, c3, rfl, _, _⟩ := hrd2.1.shape
  obtain ⟨b3, d3, rfl, _, _⟩ := hrd2.2.shape
  have Hrd3 := Lib.hid hrd2
  have HS3 : Hid (Hp w [.ob (w.heap.size) 27 (lkCells (⟨1, 0⟩ : Lok)), .rd R1, .ob B1 25 (tbCells (.slice a2 t2.held.length c2) (.slice b2 t2.wait.length d2)), .rd R2, .rd R3] w3) := ((HS2.out).row 2 rfl (tbCells (.slice a2 t2.held.length c2) (.slice b2 t2.wait.length d2))).addrd hb R3 hin2 (fun r hr => (hnew2 r hr).elim .inl (fun h => .inr ⟨.rd R2, List.mem_of_getElem? (i := 3) rfl, h⟩))
  clear hb hin2 hrd2 hnew2
  clear HS2
  go_wp2_with (first | ((with_reducible refine wpList_store_ob 25 (.tmp 2) B1 (tbCells (.slice a3 t3.held.length c3) (.slice b3 t3.wait.length d3)) (tbCells (.slice a2 t2.held.length c2) (.slice b2 t2.wait.length d2)) 25 ?_ ?_ ?_ ?_ ?_ ?_ ?_); (exact rfl); (exact rfl); (exact (HS3.out).get 2 rfl); (exact info_tb); (exact rfl); (exact (oneCell_tb _ _ _ _ _ _)); skip) | ((with_reducible refine wpList_load_ob 25 (.tmp 2) B1 (tbCells (.slice a3 t3.held.length c3) (.slice b3 t3.wait.length d3)) 25 HUT.out ?_ ?_ ?_ ?_ ?_); (exact rfl); (exact ((HS3.out).row 2 rfl (tbCells (.slice a3 t3.held.length c3) (.slice b3 t3.wait.length d3))).get 2 rfl); (exact rfl); (exact info_tb); simp only [Act.put, List.setIfInBounds_toArray, List.set_cons_zero, List.set_cons_succ]))
  refine (tb_as HE4.out (prelease_any 2 _ Hrd3.out (((HS3.out).row 2 rfl (tbCells (.slice a3 t3.held.length c3) (.slice b3 t3.wait.length d3))).reads 4 rfl) HO3.out)).mono ?_
  rintro e w4 ⟨h9, v9, R4, rfl, hrd2, hin2, hnew2, hb⟩
  obtain ⟨a4, c4, rfl, _, _⟩ := hrd2.1.shape
  obtain ⟨b4, d4, rfl, _, _⟩ := hrd2.2.shape
  have Hrd4 := Lib.hid hrd2
  have HS4 : Hid (Hp w [.ob (w.heap.size) 27 (lkCells (⟨1, 0⟩ : Lok)), .rd R1, .ob B1 25 (tbCells (.slice a3 t3.held.length c3) (.slice b3 t3.wait.length d3)), .rd R2, .rd R3, .rd R4] w4) := ((HS3.out).row 2 rfl (tbCells (.slice a3 t3.held.length c3) (.slice b3 t3.wait.length d3))).addrd hb R4 hin2 (fun r hr => (hnew2 r hr).elim .inl (fun h => .inr ⟨.rd R3, List.mem_of_getElem? (i := 4) rfl, h⟩))
  clear hb hin2 hrd2 hnew2
  clear HS3
  go_wp2_with (first | ((with_reducible refine wpList_store_ob 25 (.tmp 2) B1 (tbCells (.slice a4 t4.held.length c4) (.slice b4 t4.wait.length d4)) (tbCells (.slice a3 t3.held.length c3) (.slice b3 t3.wait.length d3)) 25 ?_ ?_ ?_ ?_ ?_ ?_ ?_); (exact rfl); (exact rfl); (exact (HS4.out).get 2 rfl); (exact info_tb); (exact rfl); (exact (oneCell_tb _ _ _ _ _ _)); skip) | ((with_reducible refine wpList_load_ob_w 25 (.tmp 2) B1 (tbCells (.slice a4 t4.held.length c4) (.slice b4 t4.wait.length d4)) 25 HUT.out ?_ ?_ ?_ ?_ ?_ ?_); (exact rfl); (exact rfl); (exact ((HS4.out).row 2 rfl (tbCells (.slice a4 t4.held.length c4) (.slice b4 t4.wait.length d4))).get 2 rfl); (exact rfl); (exact info_tb); simp only [Act.put, List.setIfInBounds_toArray, List.set_cons_zero, List.set_cons_succ]) | ((with_reducible refine wpList_load_ob_w 27 (.tmp 1) (w.heap.size) (lkCells (⟨1, 0⟩ : Lok)) 27 HUK.out ?_ ?_ ?_ ?_ ?_ ?_); (exact rfl); (exact rfl); (exact ((HS4.out).row 2 rfl (tbCells (.slice a4 t4.held.length c4) (.slice b4 t4.wait.length d4))).get 0 rfl); (exact rfl); (exact info_lk); simp only [Act.put, List.setIfInBounds_toArray, List.set_cons_zero, List.set_cons_succ]))
  refine ((pMode_any 1 ⟨1, 0⟩ _ Hrd4.out (((HS4.out).row 2 rfl (tbCells (.slice a4 t4.held.length c4) (.slice b4 t4.wait.length d4))).reads 5 rfl) HO4.out ⟨(by decide : (Lit.int .i64 1).wf = true), (by decide : (Lit.int .i64 0).wf = true)⟩)).mono ?_
  rintro e w5 ⟨rfl, hb⟩
  have HS5 : Hid (Hp w [.ob (w.heap.size) 27 (lkCells (⟨1, 0⟩ : Lok)), .rd R1, .ob B1 25 (tbCells (.slice a4 t4.held.length c4) (.slice b4 t4.wait.length d4)), .rd R2, .rd R3, .rd R4] w5) := ((HS4.out).row 2 rfl (tbCells (.slice a4 t4.held.length c4) (.slice b4 t4.wait.length d4))).calls hb
  clear hb
  clear HS4
  go_wp2_with fail
  have HS6 : Hid (Hp w [.ob (w.heap.size) 27 (lkCells (⟨1, 0⟩ : Lok)), .rd R1, .ob B1 25 (tbCells (.slice a4 t4.held.length c4) (.slice b4 t4.wait.length d4)), .rd R2, .rd R3, .rd R4] w5) := HS5.out
  clear HS5
  have h5 := HE5.out
  simp only [h5]
  go_wp2_with fail
  go_ret
  exact ⟨rfl, HS6.out.old⟩
end Go.Proofs.Ytcnaalbpbalgdaa
/- within a drawing function: what reads is appended to a slice of its own -/
namespace Go.Proofs.Ytcnaalbpbalgdaa
open Go.RowKit
set_option maxRecDepth 20000

theorem DrH.nil {w W : World} {C : Nat} {L : List Th} (h : DrH w C L W) (t : TypeId) (z : Nat) : DrH w C (L ++ [.sl (.slice none 0 0) t z 0 []]) W :=
  h.step (Nat.le_refl _) (fun _ _ hp => hp.nil t z) (fun x hx => by
    rcases List.mem_append.1 hx with hx | hx
    · exact h.off x hx
    · obtain rfl := List.mem_singleton.1 hx
      intro b hb; cases hb) (fun x hx => by
    rcases List.mem_append.1 hx with hx | hx
    · exact h.nocd x hx
    · obtain rfl := List.mem_singleton.1 hx
      intro c hc; cases hc)
theorem DrH.appendSl {w W : World} {C : Nat} {L : List Th} (h : DrH w C L W) (i : Nat) {v : Value} {e : TypeId} {z n : Nat} {xs : List Value} (ei : L[i]? = some (.sl v e z n xs)) {x : Value} {m : Nat} {ys : List Value} {R : List Rng} (hx : SlRd x z m ys R) (hR : RdIn W R)
    (ts : TypeId) (ty : TypeId) {bytes : Nat} (ht : Try.prog.underlying ts = some (.slice e)) (he : ElemIs e z bytes) (h1 : ∀ u ∈ ys, u.oneCell' = true) (hn : n + m ≤ 1048576) :
    ∃ v' W', (Builtin.append_ #[ts, ts] ty #[v, x]).run Try.prog W = .ok v' W' ∧ DrH w C (L.set i (.sl v' e z (n + m) (xs ++ ys))) W' := by
  obtain ⟨inf, zv, hi, hz, hsize, hby, hzs⟩ := he.is
  have hroom := he.room
  obtain ⟨a, cap, rfl, hl, hmc, hcm, hg, h0⟩ := hx
  cases a with
  | none =>
    have hc := h0 rfl
    have hm : m = 0 := by omega
    subst hc hm
    have hys : ys = [] := List.eq_nil_of_length_eq_zero (by rw [hl]; omega)
    subst hys
    refine ⟨v, W, run_append_owned_none (P := Try.prog) W w.heap.size ts ty e inf z ht hi v n xs (h.own i ei), ?_⟩
    rw [List.append_nil, Nat.add_zero]
    have : L.set i (.sl v e z n xs) = L := by
      apply List.ext_getElem?
      intro j
      rw [List.getElem?_set]
      split
      · next hij =>
        subst hij
        rw [ei]
        split
        · rfl
        · next hlt => rw [List.getElem?_eq_none (by omega)] at ei; cases ei
      · rfl
    rw [this]
    exact h
  | some a =>
    have hcell : ∀ q u, ys[q]? = some u → W.cell? (a.add q) = some u := fun q u hu => by
      have hq := (List.getElem?_eq_some_iff.1 hu).1
      have hm : 0 < m := by
        rcases Nat.eq_zero_or_pos m with h | h
        · rw [h, Nat.zero_mul] at hl; omega
        · exact h
      obtain ⟨g, off, ha, hmem⟩ := hg hm
      obtain rfl := Option.some.inj ha
      rw [Addr.add_mid]
      exact (hR _ hmem).2 q u hu
    obtain ⟨v', W', hr, h2, h3, h4, h5⟩ := run_append_own_at (P := Try.prog) W w.heap.size ts ty e inf zv z bytes ht hi hz hsize hby hzs he.pos v n xs (h.own i ei) a m cap ys hl hcell h1 (by unfold maxLen; omega) (by
      have := Nat.mul_le_mul hn hroom
      omega) h.bes.size
    exact ⟨v', W', hr, h.grown i ei h2 h3 h5⟩
theorem RdIn.besides {w W : World} {C : Nat} {R : List Rng} (h : RdIn w R) (hb : Besides C w W) (hc : C ∉ R.map (·.1)) : RdIn W R :=
  h.keep hb.size (fun b hb' => hb.block b (h.lt hb') (fun e => hc (e ▸ hb')))
end Go.Proofs.Ytcnaalbpbalgdaa
/- transactions that ask for one lock get it in the order in which they asked; a table that is nearly full -/
namespace Go.Proofs.Ytcnaalbpbalgdaa
set_option maxRecDepth 20000

def M12 (l : List Int) : Prop := ∀ m ∈ l, m = 1 ∨ m = 2
theorem M12.take {l : List Int} (h : M12 l) (i : Nat) : M12 (l.take i) := fun m hm => h m (List.mem_of_mem_take hm)
theorem M12.drop {l : List Int} (h : M12 l) (i : Nat) : M12 (l.drop i) := fun m hm => h m (List.mem_of_mem_drop hm)
end Go.Proofs.Ytcnaalbpbalgdaa
/- what a walk keeps of memory, beside how many choices are left at most -/
namespace Go.Proofs.Ytcnaalbpbalgdaa
open Go.RowKit
set_option maxRecDepth 20000

structure HpL (w : World) (C m : Nat) (L : List Th) (W : World) : Prop where
  hp : Hp w L W
  has : .cd C ∈ L
  left : leftIn W C ≤ m
theorem HpL.cod {w W : World} {C m : Nat} {L : List Th} (h : HpL w C m L W) : CodesOk W C := (h.hp.all _ h.has).2.1
theorem HpL.old {w W : World} {C m : Nat} {L : List Th} (h : HpL w C m L W) : Below w.heap.size w W := h.hp.old
theorem HpL.nd {w W : World} {C m : Nat} {L : List Th} (h : HpL w C m L W) : L.Pairwise Th.Apart := h.hp.nd
theorem HpL.get {w W : World} {C m : Nat} {L : List Th} (h : HpL w C m L W) (i : Nat) {b : Nat} {t : TypeId} {cs : List Value} (e : L[i]? = some (.ob b t cs)) : W.heap[b]? = some (.cells cs.toArray t (0, 0)) := h.hp.get i e
theorem HpL.at {w W : World} {C m : Nat} {L : List Th} (h : HpL w C m L W) (i : Nat) {b : Nat} {t : TypeId} {cs : List Value} (e : L[i]? = some (.ob b t cs)) (k : Nat) {v : Value} (hv : cs[k]? = some v) : W.cell? ⟨b, k, none⟩ = some v := h.hp.at i e k hv
theorem HpL.frozen {w W : World} {C m : Nat} {L : List Th} (h : HpL w C m L W) (i : Nat) {b : Nat} {t : TypeId} {cs : List Value} (e : L[i]? = some (.ob b t cs)) (k : Nat) : W.frozen? ⟨b, k, none⟩ = false := h.hp.frozen i e k
theorem HpL.codes {w W : World} {C m : Nat} {L : List Th} (h : HpL w C m L W) (i : Nat) {D : Nat} (e : L[i]? = some (.cd D)) : CodesOk W D := h.hp.codes i e
theorem HpL.reads {w W : World} {C m : Nat} {L : List Th} (h : HpL w C m L W) (i : Nat) {R : List Rng} (e : L[i]? = some (.rd R)) : RdIn W R := h.hp.reads i e
theorem HpL.put {w W : World} {C m : Nat} {L : List Th} (h : HpL w C m L W) (t : TypeId) (cs : List Value) : HpL w C m (L ++ [.ob W.heap.size t cs]) (W.alloc (.cells cs.toArray t)) :=
  ⟨h.hp.put t cs, List.mem_append_left _ h.has, by rw [leftIn_below (B := W.heap.size) ((Below.refl _ _).alloc (Nat.le_refl _) _) h.cod.lt]; exact h.left⟩
theorem HpL.ne_cd {w W : World} {C m : Nat} {L : List Th} (h : HpL w C m L W) (i : Nat) {b : Nat} {t : TypeId} {cs : List Value} (e : L[i]? = some (.ob b t cs)) : C ≠ b := by
  obtain ⟨k, hk⟩ := List.mem_iff_getElem?.1 h.has
  have hki : k ≠ i := fun hki => by subst hki; rw [hk] at e; cases e
  exact h.hp.ne k i hk e hki rfl rfl
theorem HpL.row {w W : World} {C m : Nat} {L : List Th} (h : HpL w C m L W) (i : Nat) {b : Nat} {t : TypeId} {cs : List Value} (e : L[i]? = some (.ob b t cs)) (cs' : List Value) : HpL w C m (L.set i (.ob b t cs')) (W.setRow b cs'.toArray) := by
  refine ⟨h.hp.row i e cs', ?_, by rw [leftIn_of (setRow_other _ _ _ _ (h.ne_cd i e))]; exact h.left⟩
  obtain ⟨k, hk⟩ := List.mem_iff_getElem?.1 h.has
  have hki : k ≠ i := fun hki => by subst hki; rw [hk] at e; cases e
  exact List.mem_iff_getElem?.2 ⟨k, by rw [List.getElem?_set_ne (Ne.symm hki)]; exact hk⟩
theorem HpL.set {w W : World} {C m : Nat} {L : List Th} (h : HpL w C m L W) (i : Nat) {b : Nat} {t : TypeId} {cs : List Value} (e : L[i]? = some (.ob b t cs)) (k : Nat) (v : Value) : HpL w C m (L.set i (.ob b t (cs.set k v))) (W.setCell ⟨b, k, none⟩ v) := by
  refine ⟨h.hp.set i e k v, ?_, by rw [leftIn_of (Below.heap_setCell _ _ _ _ (Ne.symm (h.ne_cd i e).symm))]; exact h.left⟩
  obtain ⟨q, hq⟩ := List.mem_iff_getElem?.1 h.has
  have hki : q ≠ i := fun hki => by subst hki; rw [hq] at e; cases e
  exact List.mem_iff_getElem?.2 ⟨q, by rw [List.getElem?_set_ne (Ne.symm hki)]; exact hq⟩
theorem HpL.calls {w W W' : World} {C m : Nat} {L : List Th} (h : HpL w C m L W) (hb : Below W.heap.size W W') : HpL w C m L W' :=
  ⟨h.hp.calls hb, h.has, by rw [leftIn_below hb h.cod.lt]; exact h.left⟩
theorem HpL.addrd {w W W' : World} {C m : Nat} {L : List Th} (h : HpL w C m L W) (hb : Below W.heap.size W W') (R : List Rng) (hR : RdIn W' R) (hr : ∀ r ∈ R, W.heap.size ≤ r.1 ∨ ∃ z ∈ L, r.1 ∈ z.reads) : HpL w C m (L ++ [.rd R]) W' :=
  ⟨h.hp.addrd hb R hR hr, List.mem_append_left _ h.has, by rw [leftIn_below hb h.cod.lt]; exact h.left⟩
theorem HpL.draws {w W W' : World} {C m m' : Nat} {L : List Th} (h : HpL w C m L W) (i : Nat) (e : L[i]? = some (.cd C)) (hb : Besides C W W') (hc : CodesOk W' C) (hl : leftIn W' C ≤ m') : HpL w C m' L W' := by
  have hp := h.hp.draws i e hb hc
  have : L.set i (.cd C) = L := by
    apply List.ext_getElem?
    intro j
    rw [List.getElem?_set]
    split
    · next hij =>
      subst hij
      rw [e]
      split
      · rfl
      · next hlt => rw [List.getElem?_eq_none (by omega)] at e; cases e
    · rfl
  rw [this] at hp
  exact ⟨hp, h.has, hl⟩
theorem HpL.drew {w W : World} {C m : Nat} {L : List Th} (h : HpL w C m L W) : HpL w C m L W.drew := ⟨h.hp.drew, h.has, h.left⟩
theorem HpL.drewN {w W : World} {C m : Nat} {L : List Th} (h : HpL w C m L W) (q : Nat) : HpL w C m L (W.drewN q) := ⟨h.hp.drewN q, h.has, h.left⟩
theorem HpL.pull {w W : World} {C m : Nat} {L M : List Th} (h : HpL w C m L W) (is : List Nat) (e : is.map (fun i => L[i]?) = M.map some) (hn : M.Pairwise Th.Apart) (hc : .cd C ∈ M) : HpL w C m M W := ⟨h.hp.pull is e hn, hc, h.left⟩
theorem HpL.pick {w W : World} {C m : Nat} {L M : List Th} (h : HpL w C m L W) (is : List Nat) (e : is.map (fun i => L[i]?) = M.map some) : Hold w.heap.size M W := h.hp.pick is e
end Go.Proofs.Ytcnaalbpbalgdaa
/- choices are drawn, and what comes of them is read -/
namespace Go.Proofs.Ytcnaalbpbalgdaa
open Go.RowKit
set_option maxRecDepth 20000

theorem Hp.drawsrd2 {w W W' : World} {L : List Th} (h : Hp w L W) (i : Nat) {C : Nat} (e : L[i]? = some (.cd C)) (hb : Besides C W W') (hc : CodesOk W' C) (R : List Rng) (hR : RdIn W' R) (hn : ∀ r ∈ R, W.heap.size ≤ r.1 ∨ ∃ z ∈ L, r.1 ∈ z.reads) : Hp w (L ++ [.rd R]) W' := by
  have h' := h.draws i e hb hc
  have hL : L.set i (.cd C) = L := by
    apply List.ext_getElem?
    intro j
    rw [List.getElem?_set]
    split
    · next hij =>
      subst hij
      rw [e]
      split
      · rfl
      · next hlt => rw [List.getElem?_eq_none (by omega)] at e; cases e
    · rfl
  rw [hL] at h'
  refine ⟨h'.old, fun x hx => ?_, ?_⟩
  · rcases List.mem_append.1 hx with hx | hx
    · exact h'.all x hx
    · obtain rfl := List.mem_singleton.1 hx
      exact hR
  · rw [List.pairwise_append]
    refine ⟨h'.nd, List.pairwise_singleton _ _, fun a ha b hb => ?_⟩
    obtain rfl := List.mem_singleton.1 hb
    refine ⟨fun c hac => ⟨fun hbc => (by cases hbc), fun hbr => ?_⟩, fun c hbc => by cases hbc⟩
    have h1 := ((h.all a ha).from hac).2
    obtain ⟨r, hr, rfl⟩ := List.mem_map.1 hbr
    rcases hn r hr with h2 | ⟨z, hz, hzr⟩
    · omega
    · exact h.reads_apart ha hz hac hzr
theorem request_good {t : Tb} {g : Gr} (hg : GoodTb t) : GoodTb (requestR t g).1 := by
  by_cases h : TbOk t
  · by_cases hr : (requestR t g).2.2 = 0
    · exact (request_ok h hr).1.good
    · unfold requestR at hr ⊢
      split
      · exact tbNil_ok.good
      · split
        · exact tbNil_ok.good
        · split
          · split
            · exact hg
            · exact tbNil_ok.good
          · split
            · exact hg
            · split
              · exact tbNil_ok.good
              · rename_i h1 h2 h3 h4 h5
                exact absurd (by rw [if_neg h1, if_neg h2, if_neg h3, if_neg h4, if_neg h5]) hr
  · unfold requestR
    rw [if_pos (tbOkB_false.2 h)]
    exact tbNil_ok.good
end Go.Proofs.Ytcnaalbpbalgdaa
