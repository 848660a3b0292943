/- texts of a claim, one after the other: the library's searches through grants, by whatever function that reads, and in the order of what is held; what the program makes of them (locks), the program's place, mode, holders, upgrade (locks), the program's size and validHeld (locks), a set of numbers in a map that the walk has made: which numbers it has, the program's validWaiting (locks), the program's Valid, Mode, Waiting (locks), what the program makes to find grants; what a transaction waits for; where a request goes (locks), the program's waiting and Waiting (locks) -/
import Derived.Test.YtooaldglgkjjgaaWa2
import Derived.Test.YtooaldglgkjjgaaWa1
import Derived.Maps.Own
import Derived.Maps.OwnSet
import Derived.Deep.CutBlock
/- the library's searches through grants, by whatever function that reads, and in the order of what is held; what the program makes of them (locks) -/
namespace Go.Proofs.Ytooaldglgkjjgaa
open Go.RowKit
set_option maxRecDepth 20000
set_option linter.unusedSimpArgs false
set_option linter.unusedVariables false

/-- where the first one is, or -1 -/
def idxR {α : Type} (p : α → Bool) (l : List α) : Int := match l.findIdx? p with | some i => (i : Int) | none => -1
theorem idxR_none {α : Type} {p : α → Bool} {l : List α} (h : l.all (fun x => !p x) = true) : idxR p l = -1 := by
  unfold idxR
  have : l.findIdx? p = none := by
    rw [List.findIdx?_eq_none_iff]
    intro x hx
    have := (List.all_eq_true.1 h) x hx
    simpa using this
  rw [this]
theorem idxR_some {α : Type} {p : α → Bool} {l : List α} {k : Nat} (h : k < l.length) (hb : (l.take k).all (fun x => !p x) = true) (hx : p l[k] = true) : idxR p l = (k : Int) := by
  unfold idxR
  have : l.findIdx? p = some k := by
    rw [List.findIdx?_eq_some_iff_getElem]
    refine ⟨h, hx, fun j hj => ?_⟩
    have h1 : l[j] ∈ l.take k := by
      rw [List.mem_take_iff_getElem]
      exact ⟨j, by omega, rfl⟩
    have := (List.all_eq_true.1 hb) _ h1
    simpa using this
  rw [this]
set_option maxHeartbeats 4000000 in
theorem idxGr_any (g : Nat) (lb : Array Value) (q : Gr → Bool) (l : List Gr) (v : Value) (R : List Rng) (w : World) (eg : EntersF g) (hp : GrFn g lb q l w) (hv : GrRd v l R) (hR : RdIn w R) (hl : l.length ≤ 200000) :
    Calls Try.prog 59 #[v, .func (.func g) #[] lb] w fun e w' => e = .returned (.int .i64 (idxR q l)) ∧ Below w.heap.size w w' := by
  obtain ⟨a, cap, rfl, hnc, hcm, hg⟩ := SlRd.open hv hR
  obtain ⟨fs, huf⟩ := under_gr
  have HUF := Lib.hid huf
  have HC : Hid (l.length ≤ cap ∧ cap ≤ maxLen) := ⟨hnc, hcm⟩
  have HL := Lib.hid hl
  have HP := Lib.hid hp
  clear hv hR hnc hcm hl huf hp
  unfold EntersF at eg
  go_enter Try.func59, Try.ntmps59
  go_wp2_with fail
  go_loopw [8] (fun i wr => ∃ k : Nat, k ≤ l.length ∧ i = .int .i64 k ∧ (l.take k).all (fun x => !q x) = true ∧ Below w.heap.size w wr) (fun i _ => l.length - (intOf i).toNat)
  case atStart => exact ⟨0, by omega, rfl, rfl, Below.refl _ _⟩
  case round =>
    obtain ⟨k, hk, rfl, hh, hb⟩ := hrel
    have HB := Lib.hid hb
    have HH := Lib.hid hh
    clear hb hh
    by_cases hlt : k < l.length
    · obtain ⟨b, off, rfl, hr⟩ := hg.out (by omega)
      obtain ⟨x, hx⟩ : ∃ x, l[k] = x := ⟨_, rfl⟩
      have hcells : Hid (wr.rangeAt b (off + k * 4) (grCells x)) := fun j u hj => by
        rw [Nat.add_assoc]
        exact hr wr HB.out (k * 4 + j) u (grRow_at l k x (by rw [List.getElem?_eq_getElem hlt, hx]) j u hj)
      have hki : (k : Int) < (l.length : Int) := by omega
      have hk0 : (0 : Int) ≤ (k : Int) := by omega
      have hkm : (k : Int) < 200001 := by have := HL.out; omega
      have hcall := HP.out wr x (by rw [← hx]; exact List.getElem_mem hlt) HB.out
      have HY : Hid (q x = true → idxR q l = (k : Int)) := fun h => idxR_some hlt HH.out (by rw [hx]; exact h)
      have HN : Hid (q x = false → (l.take (k + 1)).all (fun x => !q x) = true) := fun h => all_take (f := fun x => !q x) hlt HH.out (by rw [hx, h]; rfl)
      clear hr hx
      cases hq : q x
      · have HX := HN.out hq
        rw [hq] at hcall
        have HX2 := Lib.hid HX
        clear HX HY HN
        go_wp2_with (first | ((with_reducible refine wpList_load_at 29 (.tmp 14) b (off + k * 4) (grCells x) HUF.out ?_ ?_ ?_ ?_ ?_); (exact rfl); (exact hcells.out); (exact rfl); (exact info_gr); simp only [Act.put, List.setIfInBounds_toArray, List.set_cons_zero, List.set_cons_succ]))
        refine hcall.mono ?_
        rintro e w2 ⟨rfl, hb⟩
        have HB2 : Hid (Below w.heap.size w w2) := HB.out.trans (hb.mono HB.out.size)
        clear hb
        go_wp2_with fail
        go_roundw
        case rel => exact ⟨k + 1, by omega, by go_num, HX2.out, HB2.out⟩
        case measure => simp [intOf]; omega
      · have HX := Lib.hid (HY.out hq)
        rw [hq] at hcall
        clear HY HN
        go_wp2_with (first | ((with_reducible refine wpList_load_at 29 (.tmp 14) b (off + k * 4) (grCells x) HUF.out ?_ ?_ ?_ ?_ ?_); (exact rfl); (exact hcells.out); (exact rfl); (exact info_gr); simp only [Act.put, List.setIfInBounds_toArray, List.set_cons_zero, List.set_cons_succ]))
        refine hcall.mono ?_
        rintro e w2 ⟨rfl, hb⟩
        have HB2 : Hid (Below w.heap.size w w2) := HB.out.trans (hb.mono HB.out.size)
        clear hb
        go_wp2_with fail
        go_ret
        exact ⟨by rw [HX.out]; rfl, HB2.out⟩
    · obtain rfl : k = l.length := by omega
      rw [List.take_length] at HH
      have HX := Lib.hid (idxR_none HH.out)
      go_wp2_with fail
      go_ret
      exact ⟨by rw [HX.out]; rfl, HB.out⟩
theorem idxR_nonneg {α : Type} (p : α → Bool) (l : List α) : decide (0 ≤ idxR p l) = l.any p := by
  unfold idxR
  cases h : l.findIdx? p with
  | none =>
    rw [List.findIdx?_eq_none_iff] at h
    have : l.any p = false := by rw [List.any_eq_false]; intro x hx; simp [h x hx]
    rw [this]; rfl
  | some i =>
    obtain ⟨hi, hx, _⟩ := List.findIdx?_eq_some_iff_getElem.1 h
    have : l.any p = true := List.any_eq_true.2 ⟨_, List.getElem_mem hi, hx⟩
    rw [this]
    simp
set_option maxHeartbeats 4000000 in
theorem contains_any (g : Nat) (lb : Array Value) (q : Gr → Bool) (l : List Gr) (v : Value) (R : List Rng) (w : World) (eg : EntersF g) (hp : GrFn g lb q l w) (hv : GrRd v l R) (hR : RdIn w R) (hl : l.length ≤ 200000) :
    Calls Try.prog 64 #[v, .func (.func g) #[] lb] w fun e w' => e = .returned (.bool (l.any q)) ∧ Below w.heap.size w w' := by
  have hIx := idxGr_any g lb q l v R w eg hp hv hR hl
  have hd := idxR_nonneg q l
  rw [← hd]
  generalize idxR q l = i at *
  clear hd hp hv hR hl eg
  go_enter Try.func64, Try.ntmps64
  go_wp2_with fail
  refine hIx.mono ?_
  rintro e w2 ⟨rfl, hb⟩
  clear hIx
  have HB := Lib.hid hb
  clear hb
  go_wp2_with fail
  go_ret
  exact ⟨rfl, HB.out⟩
structure PosG (t : Gr) (l : List Gr) (i : Nat) : Prop where
  le : i ≤ l.length
  low : ∀ j (h : j < l.length), j < i → GLt l[j] t
  high : ∀ j (h : j < l.length), i ≤ j → ¬ GLt l[j] t
theorem GLt.notlt {a b c : Gr} (h : GLt a b) (k : ¬ GLt a c) : ¬ GLt b c := fun h2 => k (h.trans h2)
def keyAt (l : List Gr) (i : Nat) (t : Gr) : Bool := match l[i]? with | some x => keyB x t.tx t.page t.slot | none => false
set_option maxHeartbeats 8000000 in
theorem binSearch_any (t : Gr) (l : List Gr) (v : Value) (R : List Rng) (w : World) (hs : l.Pairwise GLt) (hv : GrRd v l R) (hR : RdIn w R) (hl : l.length ≤ 200000) :
    Calls Try.prog 91 #[v, .agg (grCells t).toArray, .func (.func 77) #[] #[]] w fun e w' => ∃ i : Nat, e = .returned (.tuple #[.int .i64 i, .bool (keyAt l i t)]) ∧ PosG t l i ∧ Below w.heap.size w w' := by
  obtain ⟨a, cap, rfl, hnc, hcm, hg⟩ := SlRd.open hv hR
  obtain ⟨fs, huf⟩ := under_gr
  have HUG := Lib.hid huf
  have HC : Hid (l.length ≤ cap ∧ cap ≤ maxLen) := ⟨hnc, hcm⟩
  have HL := Lib.hid hl
  have HS := Lib.hid hs
  have eg : ∀ args w, (callFunc 77 args).run Try.prog w = .ok (.enter 77 args) w := enters_of Try.func77 (by kernel_rfl) rfl
  have HOr : Hid (∀ x W, Calls Try.prog 77 #[.agg (grCells x).toArray, .agg (grCells t).toArray] W fun e w' => e = .returned (.int .i64 (ordI x t)) ∧ Below W.heap.size W w') := fun x W => order_any x t W
  have h1 := (Hp.start w).put 29 (grCells t)
  have HS0 : Hid (Hp w [.ob w.heap.size 29 (grCells t)] (w.alloc (.cells (grCells t).toArray 29))) := h1
  clear hv hR hnc hcm hl hs huf h1
  go_enter Try.func91, Try.ntmps91
  go_upto_region 1 with (fail)
  generalize (w.alloc (.cells (grCells t).toArray 29)) = w1 at *
  go_wp2_with fail
  go_loopw [9, 10] (fun si sj wr => ∃ i j : Nat, si = .int .i64 i ∧ sj = .int .i64 j ∧ i ≤ j ∧ j ≤ l.length ∧ (∀ k (h : k < l.length), k < i → GLt l[k] t) ∧ (∀ k (h : k < l.length), j ≤ k → ¬ GLt l[k] t) ∧ Hp w [.ob w.heap.size 29 (grCells t)] wr) (fun si sj _ => (intOf sj).toNat - (intOf si).toNat)
  case atStart => exact ⟨0, l.length, rfl, rfl, by omega, by omega, fun k h hk => absurd hk (Nat.not_lt_zero _), fun k h hk => absurd hk (by omega), HS0.out⟩
  case round =>
    clear HS0
    obtain ⟨i, j, rfl, rfl, hij, hj, hlo, hhi, hsr⟩ := hrel
    have HLo := Lib.hid hlo
    have HHi := Lib.hid hhi
    have HIJ : Hid (i ≤ j ∧ j ≤ l.length) := ⟨hij, hj⟩
    have HY := Lib.hid hsr
    clear hlo hhi hsr
    by_cases hlt : i < j
    · obtain ⟨h, hh⟩ : ∃ h, (i + j) / 2 = h := ⟨_, rfl⟩
      have hih : i ≤ h ∧ h < j := by omega
      have hhl : h < l.length := by omega
      obtain ⟨b, off, rfl, hr⟩ := hg.out (by omega)
      obtain ⟨y, hy⟩ : ∃ y, l[h]? = some y := ⟨_, List.getElem?_eq_getElem hhl⟩
      have HRow : Hid (∀ W, Below w.heap.size w W → W.rangeAt b (off + h * 4) (grCells y)) := fun W hb => elem_rng (hr W hb) hy
      have hlm : (l.length : Int) < 200001 := by have := HL.out; omega
      have hi1 : (i : Int) < (j : Int) := by omega
      have hw0 : IntKind.i64.wrap ((i : Int) + (j : Int)) = (i : Int) + (j : Int) := by rw [IntKind.wrap_i64]; omega
      have hw1 : IntKind.u64.wrap ((i : Int) + (j : Int)) = (i : Int) + (j : Int) := by rw [IntKind.wrap_u64]; omega
      have hw2 : ((i : Int) + (j : Int)) / 2 = (h : Int) := by omega
      have hw3 : IntKind.i64.wrap (h : Int) = (h : Int) := by rw [IntKind.wrap_i64]; omega
      have hw4 : IntKind.u64.wrap (h : Int) = (h : Int) := by rw [IntKind.wrap_u64]; omega
      have hh0 : (0 : Int) ≤ (h : Int) := by omega
      have hhl2 : (h : Int) < (l.length : Int) := by omega
      have hw5 : IntKind.i64.wrap ((h : Int) + 1) = (h : Int) + 1 := by rw [IntKind.wrap_i64]; omega
      have HH : Hid (i ≤ h ∧ h < j ∧ h < l.length) := ⟨hih.1, hih.2, hhl⟩
      have hyy : l[h] = y := by rw [List.getElem?_eq_getElem hhl] at hy; exact Option.some.inj hy
      have hmono : Hid (∀ k (hk : k < l.length), k ≤ h → GLt y t → GLt l[k] t) := fun k hk hkh hyt => by
        rcases Nat.lt_or_eq_of_le hkh with h1 | h1
        · have := List.pairwise_iff_getElem.1 HS.out k h hk hhl h1
          rw [hyy] at this; exact this.trans hyt
        · subst h1; rw [hyy]; exact hyt
      have hmono2 : Hid (∀ k (hk : k < l.length), h ≤ k → ¬ GLt y t → ¬ GLt l[k] t) := fun k hk hkh hyt => by
        rcases Nat.lt_or_eq_of_le hkh with h1 | h1
        · have := List.pairwise_iff_getElem.1 HS.out h k hhl hk h1
          rw [hyy] at this; exact this.notlt hyt
        · subst h1; rw [hyy]; exact hyt
      have hor := HOr.out y
      have hneg := @ordI_neg y t
      clear hr hy hyy hg hih hh hhl HOr
      generalize ordI y t = o at *
      obtain ⟨q, hq⟩ : ∃ q, decide (o < 0) = q := ⟨_, rfl⟩
      go_upto_region 5 with (fail)
      refine wp_region_held_drew (S := fun w' => w'.rangeAt b (off + h * 4) (grCells y) ∧ w'.rangeAt w.heap.size 0 (grCells t)) (by kernel_rfl) (⟨HRow.out _ ((HY.out).drew).old, (fun j v hv => by rw [Nat.zero_add]; exact ((HY.out).drew).at 0 rfl j hv)⟩) (fun hHeld => ?_)
      refine wpAnyH_take (i := 0) (oi := { dst := some 24, op := Op.move (Operand.tmp 2), type := 95, pos := "sort.go:160", after := #[], guard := none }) (v := ?q1v) rfl (by kernel_rfl) (by kernel_rfl) (by kernel_rfl) (fun _ _ _ h => h) (Or.inl ⟨by rfl, ?q1h⟩) hHeld ?q1r
      case q1h => (intro wq hSw; clear hSw; go_simp; try with_reducible rfl)
      try simp only [Act.put, List.setIfInBounds_toArray, List.set_cons_zero, List.set_cons_succ]
      refine wpAnyH_take (i := 1) (oi := { dst := some 25, op := Op.move (Operand.tmp 0), type := 23, pos := "sort.go:160", after := #[], guard := none }) (v := ?q2v) rfl (by kernel_rfl) (by kernel_rfl) (by kernel_rfl) (fun _ _ _ h => h) (Or.inl ⟨by rfl, ?q2h⟩) hHeld ?q2r
      case q2h => (intro wq hSw; clear hSw; go_simp; try with_reducible rfl)
      try simp only [Act.put, List.setIfInBounds_toArray, List.set_cons_zero, List.set_cons_succ]
      refine wpAnyH_take (i := 2) (oi := { dst := some 26, op := Op.move (Operand.tmp 11), type := 3, pos := "sort.go:160", after := #[], guard := none }) (v := ?q3v) rfl (by kernel_rfl) (by kernel_rfl) (by kernel_rfl) (fun _ _ _ h => h) (Or.inl ⟨by rfl, ?q3h⟩) hHeld ?q3r
      case q3h => (intro wq hSw; clear hSw; go_simp; try with_reducible rfl)
      try simp only [Act.put, List.setIfInBounds_toArray, List.set_cons_zero, List.set_cons_succ]
      refine wpAnyH_take (i := 3) (oi := { dst := some 27, op := Op.indexAddr 23 (Operand.tmp 25) (Operand.tmp 26), type := 0, pos := "sort.go:160", after := #[{ on := 1, ground := Ground.data }, { on := 2, ground := Ground.data }], guard := none }) (v := ?q4v) rfl (by kernel_rfl) (by kernel_rfl) (by kernel_rfl) (fun _ _ _ h => h) (Or.inl ⟨by rfl, ?q4h⟩) hHeld ?q4r
      case q4h => (intro wq hSw; clear hSw; go_simp; try with_reducible rfl)
      try simp only [Act.put, List.setIfInBounds_toArray, List.set_cons_zero, List.set_cons_succ]
      refine wpAnyH_take (i := 4) (oi := { dst := some 28, op := Op.load 29 (Operand.tmp 27), type := 29, pos := "sort.go:160", after := #[{ on := 3, ground := Ground.data }], guard := none }) rfl (by kernel_rfl) (by kernel_rfl) (by kernel_rfl) (fun _ _ _ h => h) (yieldsIf_load_mid (by rfl) 29 (.tmp 27) rfl b (off + h * 4) rfl (grCells y) _ (fun _ h => h.1) HUG.out rfl (info_gr)) hHeld ?_
      try simp only [Act.put, List.setIfInBounds_toArray, List.set_cons_zero, List.set_cons_succ]
      refine wpAnyH_take (i := 5) (oi := { dst := some 29, op := Op.load 29 (Operand.tmp 4), type := 29, pos := "sort.go:160", after := #[], guard := none }) rfl (by kernel_rfl) (by kernel_rfl) (by kernel_rfl) (fun _ _ _ h => h) (yieldsIf_load_mid (by rfl) 29 (.tmp 4) rfl w.heap.size (0) rfl (grCells t) _ (fun _ h => h.2) HUG.out rfl (info_gr)) hHeld ?_
      try simp only [Act.put, List.setIfInBounds_toArray, List.set_cons_zero, List.set_cons_succ]
      refine wpAnyH_ready (rs := [6]) (by kernel_rfl) (by simp) ?_
      refine AllReadyH.cons (o := { dst := some 30, op := Op.call { callee := Callee.value (Operand.tmp 24), args := #[Operand.tmp 28, Operand.tmp 29], argTypes := #[29, 29] }, type := 3, pos := "sort.go:160", after := #[{ on := 0, ground := Ground.data }, { on := 4, ground := Ground.data }, { on := 5, ground := Ground.data }], guard := none }) rfl (fun K hK => ?_) (AllReadyH.nil)
      go_simp
      go_wp2_with fail
      refine (hor _).mono ?_
      rintro e w1 ⟨rfl, hb⟩
      have HS1 : Hid (Hp w [.ob (w.heap.size) 29 (grCells t)] w1) := ((HY.out).drew).calls hb
      refine hK.out _ _ (⟨HRow.out _ (HS1.out).old, (fun j v hv => by rw [Nat.zero_add]; exact (HS1.out).at 0 rfl j hv)⟩) (fun hHeld => ?_)
      clear hK K hb
      try simp only [Act.put, List.setIfInBounds_toArray, List.set_cons_zero, List.set_cons_succ]
      refine wpAnyH_take (i := 7) (oi := { dst := some 31, op := Op.binOp BinOp.lss 3 (Operand.tmp 30) (Operand.const (Value.int IntKind.i64 0)) 3, type := 4, pos := "sort.go:160", after := #[{ on := 6, ground := Ground.data }], guard := none }) (v := .bool q) rfl (by kernel_rfl) (by kernel_rfl) (by kernel_rfl) (fun _ _ _ h => h) (Or.inl ⟨by rfl, ?q7h⟩) hHeld ?q7r
      case q7h => (intro wq hSw; clear hSw; go_simp; try with_reducible rfl)
      try simp only [Act.put, List.setIfInBounds_toArray, List.set_cons_zero, List.set_cons_succ]
      refine wpAnyH_done (by kernel_rfl) ?_ _
      clear hHeld hor hw0 hw1 hw2 hw3 hw4 hlm hi1
      cases q
      case true =>
        have HG := Lib.hid (hneg.1 (of_decide_eq_true hq))
        clear hneg hq
        go_wp2_with fail
        go_roundw
        case rel => exact ⟨h + 1, j, by go_num, rfl, by have := HH.out; omega, HIJ.out.2, fun k hk hkh => hmono.out k hk (by omega) HG.out, HHi.out, HS1.out⟩
        case measure => have := HH.out; simp [intOf]; omega
      case false =>
        have HG := Lib.hid (fun h => of_decide_eq_false hq (hneg.2 h))
        clear hneg hq
        go_wp2_with fail
        go_roundw
        case rel => exact ⟨i, h, rfl, rfl, HH.out.1, by have := HH.out; omega, HLo.out, fun k hk hkh => hmono2.out k hk hkh HG.out, HS1.out⟩
        case measure => have := HH.out; simp [intOf]; omega
    · obtain rfl : i = j := by omega
      have HP : Hid (PosG t l i) := ⟨hj, HLo.out, fun k hk hik => HHi.out k hk hik⟩
      have hlm : (l.length : Int) < 200001 := by have := HL.out; omega
      have hi0 : (0 : Int) ≤ (i : Int) := by omega
      by_cases hil : i < l.length
      · obtain ⟨b, off, rfl, hr⟩ := hg.out (by omega)
        obtain ⟨y, hy⟩ : ∃ y, l[i]? = some y := ⟨_, List.getElem?_eq_getElem hil⟩
        have HRow : Hid (∀ W, Below w.heap.size w W → W.rangeAt b (off + i * 4) (grCells y)) := fun W hb => elem_rng (hr W hb) hy
        have hi1 : (i : Int) < (l.length : Int) := by omega
        have hor := HOr.out y
        have hzero := @ordI_zero y t
        have HKey : Hid (keyAt l i t = keyB y t.tx t.page t.slot) := Lib.hid (by unfold keyAt; rw [hy])
        have HKb : Hid (keyB y t.tx t.page t.slot = decide (ordI y t = 0)) := Lib.hid (by rw [Bool.eq_iff_iff, keyB_iff, decide_eq_true_eq]; exact hzero.symm)
        clear hr hy hg HOr hzero
        generalize ordI y t = o at *
        go_upto_region 8 with (fail)
        refine wp_region_held_drew (S := fun w' => w'.rangeAt b (off + i * 4) (grCells y) ∧ w'.rangeAt w.heap.size 0 (grCells t)) (by kernel_rfl) (⟨HRow.out _ ((HY.out).drew).old, (fun j v hv => by rw [Nat.zero_add]; exact ((HY.out).drew).at 0 rfl j hv)⟩) (fun hHeld => ?_)
        refine wpAnyH_take (i := 0) (oi := { dst := some 35, op := Op.move (Operand.tmp 9), type := 3, pos := "sort.go:167", after := #[], guard := none }) (v := ?q101v) rfl (by kernel_rfl) (by kernel_rfl) (by kernel_rfl) (fun _ _ _ h => h) (Or.inl ⟨by rfl, ?q101h⟩) hHeld ?q101r
        case q101h => (intro wq hSw; clear hSw; go_simp; try with_reducible rfl)
        try simp only [Act.put, List.setIfInBounds_toArray, List.set_cons_zero, List.set_cons_succ]
        refine wpAnyH_take (i := 1) (oi := { dst := some 36, op := Op.move (Operand.tmp 9), type := 3, pos := "sort.go:167", after := #[], guard := none }) (v := ?q102v) rfl (by kernel_rfl) (by kernel_rfl) (by kernel_rfl) (fun _ _ _ h => h) (Or.inl ⟨by rfl, ?q102h⟩) hHeld ?q102r
        case q102h => (intro wq hSw; clear hSw; go_simp; try with_reducible rfl)
        try simp only [Act.put, List.setIfInBounds_toArray, List.set_cons_zero, List.set_cons_succ]
        refine wpAnyH_take (i := 2) (oi := { dst := some 37, op := Op.move (Operand.tmp 8), type := 3, pos := "sort.go:167", after := #[], guard := none }) (v := ?q103v) rfl (by kernel_rfl) (by kernel_rfl) (by kernel_rfl) (fun _ _ _ h => h) (Or.inl ⟨by rfl, ?q103h⟩) hHeld ?q103r
        case q103h => (intro wq hSw; clear hSw; go_simp; try with_reducible rfl)
        try simp only [Act.put, List.setIfInBounds_toArray, List.set_cons_zero, List.set_cons_succ]
        refine wpAnyH_take (i := 3) (oi := { dst := some 38, op := Op.binOp BinOp.lss 3 (Operand.tmp 36) (Operand.tmp 37) 3, type := 4, pos := "sort.go:167", after := #[{ on := 1, ground := Ground.data }, { on := 2, ground := Ground.data }], guard := none }) (v := .bool true) rfl (by kernel_rfl) (by kernel_rfl) (by kernel_rfl) (fun _ _ _ h => h) (Or.inl ⟨by rfl, ?q104h⟩) hHeld ?q104r
        case q104h => (intro wq hSw; clear hSw; go_simp; try with_reducible rfl)
        try simp only [Act.put, List.setIfInBounds_toArray, List.set_cons_zero, List.set_cons_succ]
        refine wpAnyH_take (i := 4) (oi := { dst := some 39, op := Op.move (Operand.tmp 38), type := 4, pos := "sort.go:167", after := #[{ on := 3, ground := Ground.data }], guard := none }) (v := ?q105v) rfl (by kernel_rfl) (by kernel_rfl) (by kernel_rfl) (fun _ _ _ h => h) (Or.inl ⟨by rfl, ?q105h⟩) hHeld ?q105r
        case q105h => (intro wq hSw; clear hSw; go_simp; try with_reducible rfl)
        try simp only [Act.put, List.setIfInBounds_toArray, List.set_cons_zero, List.set_cons_succ]
        refine wpAnyH_take (i := 5) (oi := { dst := some 40, op := Op.move (Operand.tmp 2), type := 95, pos := "sort.go:167", after := #[{ on := 4, ground := Ground.guard }], guard := some (4, true) }) (v := ?q106v) rfl (by kernel_rfl) (by kernel_rfl) (by kernel_rfl) (fun _ _ _ h => h) (Or.inl ⟨by rfl, ?q106h⟩) hHeld ?q106r
        case q106h => (intro wq hSw; clear hSw; go_simp; try with_reducible rfl)
        try simp only [Act.put, List.setIfInBounds_toArray, List.set_cons_zero, List.set_cons_succ]
        refine wpAnyH_take (i := 6) (oi := { dst := some 41, op := Op.move (Operand.tmp 0), type := 23, pos := "sort.go:167", after := #[{ on := 4, ground := Ground.guard }], guard := some (4, true) }) (v := ?q107v) rfl (by kernel_rfl) (by kernel_rfl) (by kernel_rfl) (fun _ _ _ h => h) (Or.inl ⟨by rfl, ?q107h⟩) hHeld ?q107r
        case q107h => (intro wq hSw; clear hSw; go_simp; try with_reducible rfl)
        try simp only [Act.put, List.setIfInBounds_toArray, List.set_cons_zero, List.set_cons_succ]
        refine wpAnyH_take (i := 7) (oi := { dst := some 42, op := Op.move (Operand.tmp 9), type := 3, pos := "sort.go:167", after := #[{ on := 4, ground := Ground.guard }], guard := some (4, true) }) (v := ?q108v) rfl (by kernel_rfl) (by kernel_rfl) (by kernel_rfl) (fun _ _ _ h => h) (Or.inl ⟨by rfl, ?q108h⟩) hHeld ?q108r
        case q108h => (intro wq hSw; clear hSw; go_simp; try with_reducible rfl)
        try simp only [Act.put, List.setIfInBounds_toArray, List.set_cons_zero, List.set_cons_succ]
        refine wpAnyH_take (i := 8) (oi := { dst := some 43, op := Op.indexAddr 23 (Operand.tmp 41) (Operand.tmp 42), type := 0, pos := "sort.go:167", after := #[{ on := 6, ground := Ground.data }, { on := 7, ground := Ground.data }, { on := 4, ground := Ground.guard }], guard := some (4, true) }) (v := ?q109v) rfl (by kernel_rfl) (by kernel_rfl) (by kernel_rfl) (fun _ _ _ h => h) (Or.inl ⟨by rfl, ?q109h⟩) hHeld ?q109r
        case q109h => (intro wq hSw; clear hSw; go_simp; try with_reducible rfl)
        try simp only [Act.put, List.setIfInBounds_toArray, List.set_cons_zero, List.set_cons_succ]
        refine wpAnyH_take (i := 9) (oi := { dst := some 44, op := Op.load 29 (Operand.tmp 43), type := 29, pos := "sort.go:167", after := #[{ on := 8, ground := Ground.data }, { on := 4, ground := Ground.guard }], guard := some (4, true) }) rfl (by kernel_rfl) (by kernel_rfl) (by kernel_rfl) (fun _ _ _ h => h) (yieldsIf_load_mid (by rfl) 29 (.tmp 43) rfl b (off + i * 4) rfl (grCells y) _ (fun _ h => h.1) HUG.out rfl (info_gr)) hHeld ?_
        try simp only [Act.put, List.setIfInBounds_toArray, List.set_cons_zero, List.set_cons_succ]
        refine wpAnyH_take (i := 10) (oi := { dst := some 45, op := Op.load 29 (Operand.tmp 4), type := 29, pos := "sort.go:167", after := #[{ on := 4, ground := Ground.guard }], guard := some (4, true) }) rfl (by kernel_rfl) (by kernel_rfl) (by kernel_rfl) (fun _ _ _ h => h) (yieldsIf_load_mid (by rfl) 29 (.tmp 4) rfl w.heap.size (0) rfl (grCells t) _ (fun _ h => h.2) HUG.out rfl (info_gr)) hHeld ?_
        try simp only [Act.put, List.setIfInBounds_toArray, List.set_cons_zero, List.set_cons_succ]
        refine wpAnyH_ready (rs := [11]) (by kernel_rfl) (by simp) ?_
        refine AllReadyH.cons (o := { dst := some 46, op := Op.call { callee := Callee.value (Operand.tmp 40), args := #[Operand.tmp 44, Operand.tmp 45], argTypes := #[29, 29] }, type := 3, pos := "sort.go:167", after := #[{ on := 5, ground := Ground.data }, { on := 9, ground := Ground.data }, { on := 10, ground := Ground.data }, { on := 4, ground := Ground.chain }, { on := 4, ground := Ground.guard }], guard := some (4, true) }) rfl (fun K hK => ?_) (AllReadyH.nil)
        go_simp
        go_wp2_with fail
        refine (hor _).mono ?_
        rintro e w1 ⟨rfl, hb⟩
        have HS1 : Hid (Hp w [.ob (w.heap.size) 29 (grCells t)] w1) := ((HY.out).drew).calls hb
        refine hK.out _ _ (⟨HRow.out _ (HS1.out).old, (fun j v hv => by rw [Nat.zero_add]; exact (HS1.out).at 0 rfl j hv)⟩) (fun hHeld => ?_)
        clear hK K hb
        try simp only [Act.put, List.setIfInBounds_toArray, List.set_cons_zero, List.set_cons_succ]
        refine wpAnyH_take (i := 12) (oi := { dst := some 47, op := Op.binOp BinOp.eql 3 (Operand.tmp 46) (Operand.const (Value.int IntKind.i64 0)) 3, type := 4, pos := "sort.go:167", after := #[{ on := 11, ground := Ground.data }, { on := 4, ground := Ground.guard }, { on := 14, ground := Ground.gcOnly Departure.lateStores }], guard := some (4, true) }) (v := ?q112v) rfl (by kernel_rfl) (by kernel_rfl) (by kernel_rfl) (fun _ _ _ h => h) (Or.inl ⟨by rfl, ?q112h⟩) hHeld ?q112r
        case q112h => (intro wq hSw; clear hSw; go_simp; try with_reducible rfl)
        try simp only [Act.put, List.setIfInBounds_toArray, List.set_cons_zero, List.set_cons_succ]
        refine wpAnyH_take (i := 13) (oi := { dst := some 48, op := Op.pick (Operand.tmp 39) (Operand.tmp 47) (Operand.const (Value.bool false)), type := 4, pos := "sort.go:167", after := #[{ on := 4, ground := Ground.data }, { on := 12, ground := Ground.data }, { on := 14, ground := Ground.gcOnly Departure.lateStores }], guard := none }) (v := ?q113v) rfl (by kernel_rfl) (by kernel_rfl) (by kernel_rfl) (fun _ _ _ h => h) (Or.inl ⟨by rfl, ?q113h⟩) hHeld ?q113r
        case q113h => (intro wq hSw; clear hSw; go_simp; try with_reducible rfl)
        try simp only [Act.put, List.setIfInBounds_toArray, List.set_cons_zero, List.set_cons_succ]
        refine wpAnyH_take (i := 14) (oi := { dst := some 6, op := Op.assign (Operand.tmp 35), type := 3, pos := "sort.go:167", after := #[{ on := 0, ground := Ground.data }, { on := 11, ground := Ground.chain }, { on := 0, ground := Ground.phase }, { on := 1, ground := Ground.textOnly Departure.lateStores }, { on := 2, ground := Ground.textOnly Departure.lateStores }, { on := 3, ground := Ground.textOnly Departure.lateStores }, { on := 4, ground := Ground.textOnly Departure.lateStores }, { on := 5, ground := Ground.textOnly Departure.lateStores }, { on := 6, ground := Ground.textOnly Departure.lateStores }, { on := 7, ground := Ground.textOnly Departure.lateStores }, { on := 8, ground := Ground.textOnly Departure.lateStores }, { on := 9, ground := Ground.textOnly Departure.lateStores }, { on := 10, ground := Ground.textOnly Departure.lateStores }, { on := 11, ground := Ground.textOnly Departure.lateStoresUnsure }, { on := 12, ground := Ground.textOnly Departure.lateStores }, { on := 13, ground := Ground.textOnly Departure.lateStores }], guard := none }) (v := ?q114v) rfl (by kernel_rfl) (by kernel_rfl) (by kernel_rfl) (fun _ _ _ h => h) (Or.inl ⟨by rfl, ?q114h⟩) hHeld ?q114r
        case q114h => (intro wq hSw; clear hSw; go_simp; try with_reducible rfl)
        try simp only [Act.put, List.setIfInBounds_toArray, List.set_cons_zero, List.set_cons_succ]
        refine wpAnyH_take (i := 15) (oi := { dst := some 7, op := Op.assign (Operand.tmp 48), type := 4, pos := "sort.go:167", after := #[{ on := 13, ground := Ground.data }, { on := 14, ground := Ground.chain }, { on := 0, ground := Ground.phase }, { on := 1, ground := Ground.phase }, { on := 2, ground := Ground.phase }, { on := 3, ground := Ground.phase }, { on := 4, ground := Ground.phase }, { on := 5, ground := Ground.phase }, { on := 6, ground := Ground.phase }, { on := 7, ground := Ground.phase }, { on := 8, ground := Ground.phase }, { on := 9, ground := Ground.phase }, { on := 10, ground := Ground.phase }, { on := 11, ground := Ground.phase }, { on := 12, ground := Ground.phase }, { on := 13, ground := Ground.phase }, { on := 14, ground := Ground.phase }], guard := none }) (v := ?q115v) rfl (by kernel_rfl) (by kernel_rfl) (by kernel_rfl) (fun _ _ _ h => h) (Or.inl ⟨by rfl, ?q115h⟩) hHeld ?q115r
        case q115h => (intro wq hSw; clear hSw; go_simp; try with_reducible rfl)
        try simp only [Act.put, List.setIfInBounds_toArray, List.set_cons_zero, List.set_cons_succ]
        refine wpAnyH_done (by kernel_rfl) ?_ _
        go_wp2_with fail
        clear hHeld hor
        exact bodyPost_ret (v := .tuple #[.int .i64 i, .bool (o == 0)]) (by simp [results, Try.results91, go_sem]) rfl ⟨i, by rw [HKey.out, HKb.out, beq_dec'], HP.out, (HS1.out).old⟩
      · have hi1 : ¬ (i : Int) < (l.length : Int) := by omega
        have HKey : Hid (keyAt l i t = false) := Lib.hid (by unfold keyAt; rw [List.getElem?_eq_none (by omega)])
        clear hg
        go_upto_region 8 with (fail)
        refine wp_region_held_drew (S := fun w' => True) (by kernel_rfl) (trivial) (fun hHeld => ?_)
        refine wpAnyH_take (i := 0) (oi := { dst := some 35, op := Op.move (Operand.tmp 9), type := 3, pos := "sort.go:167", after := #[], guard := none }) (v := ?q201v) rfl (by kernel_rfl) (by kernel_rfl) (by kernel_rfl) (fun _ _ _ h => h) (Or.inl ⟨by rfl, ?q201h⟩) hHeld ?q201r
        case q201h => (intro wq hSw; clear hSw; go_simp; try with_reducible rfl)
        try simp only [Act.put, List.setIfInBounds_toArray, List.set_cons_zero, List.set_cons_succ]
        refine wpAnyH_take (i := 1) (oi := { dst := some 36, op := Op.move (Operand.tmp 9), type := 3, pos := "sort.go:167", after := #[], guard := none }) (v := ?q202v) rfl (by kernel_rfl) (by kernel_rfl) (by kernel_rfl) (fun _ _ _ h => h) (Or.inl ⟨by rfl, ?q202h⟩) hHeld ?q202r
        case q202h => (intro wq hSw; clear hSw; go_simp; try with_reducible rfl)
        try simp only [Act.put, List.setIfInBounds_toArray, List.set_cons_zero, List.set_cons_succ]
        refine wpAnyH_take (i := 2) (oi := { dst := some 37, op := Op.move (Operand.tmp 8), type := 3, pos := "sort.go:167", after := #[], guard := none }) (v := ?q203v) rfl (by kernel_rfl) (by kernel_rfl) (by kernel_rfl) (fun _ _ _ h => h) (Or.inl ⟨by rfl, ?q203h⟩) hHeld ?q203r
        case q203h => (intro wq hSw; clear hSw; go_simp; try with_reducible rfl)
        try simp only [Act.put, List.setIfInBounds_toArray, List.set_cons_zero, List.set_cons_succ]
        refine wpAnyH_take (i := 3) (oi := { dst := some 38, op := Op.binOp BinOp.lss 3 (Operand.tmp 36) (Operand.tmp 37) 3, type := 4, pos := "sort.go:167", after := #[{ on := 1, ground := Ground.data }, { on := 2, ground := Ground.data }], guard := none }) (v := .bool false) rfl (by kernel_rfl) (by kernel_rfl) (by kernel_rfl) (fun _ _ _ h => h) (Or.inl ⟨by rfl, ?q204h⟩) hHeld ?q204r
        case q204h => (intro wq hSw; clear hSw; go_simp; try with_reducible rfl)
        try simp only [Act.put, List.setIfInBounds_toArray, List.set_cons_zero, List.set_cons_succ]
        refine wpAnyH_take (i := 4) (oi := { dst := some 39, op := Op.move (Operand.tmp 38), type := 4, pos := "sort.go:167", after := #[{ on := 3, ground := Ground.data }], guard := none }) (v := ?q205v) rfl (by kernel_rfl) (by kernel_rfl) (by kernel_rfl) (fun _ _ _ h => h) (Or.inl ⟨by rfl, ?q205h⟩) hHeld ?q205r
        case q205h => (intro wq hSw; clear hSw; go_simp; try with_reducible rfl)
        try simp only [Act.put, List.setIfInBounds_toArray, List.set_cons_zero, List.set_cons_succ]
        refine wpAnyH_take (i := 5) (oi := { dst := some 40, op := Op.move (Operand.tmp 2), type := 95, pos := "sort.go:167", after := #[{ on := 4, ground := Ground.guard }], guard := some (4, true) }) (v := undef) rfl (by kernel_rfl) (by kernel_rfl) (by kernel_rfl) (fun _ _ _ h => h) (Or.inr ⟨by rfl, rfl⟩) hHeld ?_
        try simp only [Act.put, List.setIfInBounds_toArray, List.set_cons_zero, List.set_cons_succ]
        refine wpAnyH_take (i := 6) (oi := { dst := some 41, op := Op.move (Operand.tmp 0), type := 23, pos := "sort.go:167", after := #[{ on := 4, ground := Ground.guard }], guard := some (4, true) }) (v := undef) rfl (by kernel_rfl) (by kernel_rfl) (by kernel_rfl) (fun _ _ _ h => h) (Or.inr ⟨by rfl, rfl⟩) hHeld ?_
        try simp only [Act.put, List.setIfInBounds_toArray, List.set_cons_zero, List.set_cons_succ]
        refine wpAnyH_take (i := 7) (oi := { dst := some 42, op := Op.move (Operand.tmp 9), type := 3, pos := "sort.go:167", after := #[{ on := 4, ground := Ground.guard }], guard := some (4, true) }) (v := undef) rfl (by kernel_rfl) (by kernel_rfl) (by kernel_rfl) (fun _ _ _ h => h) (Or.inr ⟨by rfl, rfl⟩) hHeld ?_
        try simp only [Act.put, List.setIfInBounds_toArray, List.set_cons_zero, List.set_cons_succ]
        refine wpAnyH_take (i := 8) (oi := { dst := some 43, op := Op.indexAddr 23 (Operand.tmp 41) (Operand.tmp 42), type := 0, pos := "sort.go:167", after := #[{ on := 6, ground := Ground.data }, { on := 7, ground := Ground.data }, { on := 4, ground := Ground.guard }], guard := some (4, true) }) (v := undef) rfl (by kernel_rfl) (by kernel_rfl) (by kernel_rfl) (fun _ _ _ h => h) (Or.inr ⟨by rfl, rfl⟩) hHeld ?_
        try simp only [Act.put, List.setIfInBounds_toArray, List.set_cons_zero, List.set_cons_succ]
        refine wpAnyH_take (i := 9) (oi := { dst := some 44, op := Op.load 29 (Operand.tmp 43), type := 29, pos := "sort.go:167", after := #[{ on := 8, ground := Ground.data }, { on := 4, ground := Ground.guard }], guard := some (4, true) }) (v := undef) rfl (by kernel_rfl) (by kernel_rfl) (by kernel_rfl) (fun _ _ _ h => h) (Or.inr ⟨by rfl, rfl⟩) hHeld ?_
        try simp only [Act.put, List.setIfInBounds_toArray, List.set_cons_zero, List.set_cons_succ]
        refine wpAnyH_take (i := 10) (oi := { dst := some 45, op := Op.load 29 (Operand.tmp 4), type := 29, pos := "sort.go:167", after := #[{ on := 4, ground := Ground.guard }], guard := some (4, true) }) (v := undef) rfl (by kernel_rfl) (by kernel_rfl) (by kernel_rfl) (fun _ _ _ h => h) (Or.inr ⟨by rfl, rfl⟩) hHeld ?_
        try simp only [Act.put, List.setIfInBounds_toArray, List.set_cons_zero, List.set_cons_succ]
        refine wpAnyH_take (i := 11) (oi := { dst := some 46, op := Op.call { callee := Callee.value (Operand.tmp 40), args := #[Operand.tmp 44, Operand.tmp 45], argTypes := #[29, 29] }, type := 3, pos := "sort.go:167", after := #[{ on := 5, ground := Ground.data }, { on := 9, ground := Ground.data }, { on := 10, ground := Ground.data }, { on := 4, ground := Ground.chain }, { on := 4, ground := Ground.guard }], guard := some (4, true) }) (v := undef) rfl (by kernel_rfl) (by kernel_rfl) (by kernel_rfl) (fun _ _ _ h => h) (Or.inr ⟨by rfl, rfl⟩) hHeld ?_
        try simp only [Act.put, List.setIfInBounds_toArray, List.set_cons_zero, List.set_cons_succ]
        refine wpAnyH_take (i := 12) (oi := { dst := some 47, op := Op.binOp BinOp.eql 3 (Operand.tmp 46) (Operand.const (Value.int IntKind.i64 0)) 3, type := 4, pos := "sort.go:167", after := #[{ on := 11, ground := Ground.data }, { on := 4, ground := Ground.guard }, { on := 14, ground := Ground.gcOnly Departure.lateStores }], guard := some (4, true) }) (v := undef) rfl (by kernel_rfl) (by kernel_rfl) (by kernel_rfl) (fun _ _ _ h => h) (Or.inr ⟨by rfl, rfl⟩) hHeld ?_
        try simp only [Act.put, List.setIfInBounds_toArray, List.set_cons_zero, List.set_cons_succ]
        refine wpAnyH_take (i := 13) (oi := { dst := some 48, op := Op.pick (Operand.tmp 39) (Operand.tmp 47) (Operand.const (Value.bool false)), type := 4, pos := "sort.go:167", after := #[{ on := 4, ground := Ground.data }, { on := 12, ground := Ground.data }, { on := 14, ground := Ground.gcOnly Departure.lateStores }], guard := none }) (v := ?q214v) rfl (by kernel_rfl) (by kernel_rfl) (by kernel_rfl) (fun _ _ _ h => h) (Or.inl ⟨by rfl, ?q214h⟩) hHeld ?q214r
        case q214h => (intro wq hSw; clear hSw; go_simp; try with_reducible rfl)
        try simp only [Act.put, List.setIfInBounds_toArray, List.set_cons_zero, List.set_cons_succ]
        refine wpAnyH_take (i := 14) (oi := { dst := some 6, op := Op.assign (Operand.tmp 35), type := 3, pos := "sort.go:167", after := #[{ on := 0, ground := Ground.data }, { on := 11, ground := Ground.chain }, { on := 0, ground := Ground.phase }, { on := 1, ground := Ground.textOnly Departure.lateStores }, { on := 2, ground := Ground.textOnly Departure.lateStores }, { on := 3, ground := Ground.textOnly Departure.lateStores }, { on := 4, ground := Ground.textOnly Departure.lateStores }, { on := 5, ground := Ground.textOnly Departure.lateStores }, { on := 6, ground := Ground.textOnly Departure.lateStores }, { on := 7, ground := Ground.textOnly Departure.lateStores }, { on := 8, ground := Ground.textOnly Departure.lateStores }, { on := 9, ground := Ground.textOnly Departure.lateStores }, { on := 10, ground := Ground.textOnly Departure.lateStores }, { on := 11, ground := Ground.textOnly Departure.lateStoresUnsure }, { on := 12, ground := Ground.textOnly Departure.lateStores }, { on := 13, ground := Ground.textOnly Departure.lateStores }], guard := none }) (v := ?q215v) rfl (by kernel_rfl) (by kernel_rfl) (by kernel_rfl) (fun _ _ _ h => h) (Or.inl ⟨by rfl, ?q215h⟩) hHeld ?q215r
        case q215h => (intro wq hSw; clear hSw; go_simp; try with_reducible rfl)
        try simp only [Act.put, List.setIfInBounds_toArray, List.set_cons_zero, List.set_cons_succ]
        refine wpAnyH_take (i := 15) (oi := { dst := some 7, op := Op.assign (Operand.tmp 48), type := 4, pos := "sort.go:167", after := #[{ on := 13, ground := Ground.data }, { on := 14, ground := Ground.chain }, { on := 0, ground := Ground.phase }, { on := 1, ground := Ground.phase }, { on := 2, ground := Ground.phase }, { on := 3, ground := Ground.phase }, { on := 4, ground := Ground.phase }, { on := 5, ground := Ground.phase }, { on := 6, ground := Ground.phase }, { on := 7, ground := Ground.phase }, { on := 8, ground := Ground.phase }, { on := 9, ground := Ground.phase }, { on := 10, ground := Ground.phase }, { on := 11, ground := Ground.phase }, { on := 12, ground := Ground.phase }, { on := 13, ground := Ground.phase }, { on := 14, ground := Ground.phase }], guard := none }) (v := ?q216v) rfl (by kernel_rfl) (by kernel_rfl) (by kernel_rfl) (fun _ _ _ h => h) (Or.inl ⟨by rfl, ?q216h⟩) hHeld ?q216r
        case q216h => (intro wq hSw; clear hSw; go_simp; try with_reducible rfl)
        try simp only [Act.put, List.setIfInBounds_toArray, List.set_cons_zero, List.set_cons_succ]
        refine wpAnyH_done (by kernel_rfl) ?_ _
        go_wp2_with fail
        exact bodyPost_ret (v := .tuple #[.int .i64 i, .bool false]) (by simp [results, Try.results91, go_sem]) rfl ⟨i, by rw [HKey.out], HP.out, ((HY.out).drew).old⟩

end Go.Proofs.Ytooaldglgkjjgaa
/- the program's place, mode, holders, upgrade (locks) -/
namespace Go.Proofs.Ytooaldglgkjjgaa
open Go.RowKit
set_option maxRecDepth 20000
set_option linter.unusedSimpArgs false
set_option linter.unusedVariables false

theorem pos_find {t : Gr} {l : List Gr} {i : Nat} (hs : l.Pairwise GLt) (h : PosG t l i) : findK l t.tx t.page t.slot = if keyAt l i t = true then l[i]? else none := by
  by_cases hil : i < l.length
  · have hx : l[i]? = some l[i] := List.getElem?_eq_getElem hil
    have hk : keyAt l i t = keyB l[i] t.tx t.page t.slot := by unfold keyAt; rw [hx]
    cases hkb : keyB l[i] t.tx t.page t.slot with
    | true =>
      rw [hk, hkb, if_pos rfl, hx]
      have h1 := keyB_iff.1 hkb
      have := findK_mem hs (List.getElem_mem hil)
      rw [h1.1, h1.2.1, h1.2.2] at this
      exact this
    | false =>
      rw [hk, hkb, if_neg (by simp)]
      cases hf : findK l t.tx t.page t.slot with
      | none => rfl
      | some x =>
        exfalso
        obtain ⟨hm, h1, h2, h3⟩ := findK_some hf
        obtain ⟨j, hj, rfl⟩ := List.getElem_of_mem hm
        rcases Nat.lt_trichotomy j i with hji | rfl | hji
        · have := h.low j hj hji; unfold GLt at this; omega
        · have : keyB l[j] t.tx t.page t.slot = true := keyB_iff.2 ⟨h1, h2, h3⟩
          rw [hkb] at this; cases this
        · have h4 := List.pairwise_iff_getElem.1 hs i j hil hj hji
          have h5 := h.high i hil (Nat.le_refl _)
          unfold GLt at h4 h5; omega
  · have hx : l[i]? = none := List.getElem?_eq_none (by omega)
    have hk : keyAt l i t = false := by unfold keyAt; rw [hx]
    rw [hk, if_neg (by simp)]
    cases hf : findK l t.tx t.page t.slot with
    | none => rfl
    | some x =>
      exfalso
      obtain ⟨hm, h1, h2, h3⟩ := findK_some hf
      obtain ⟨j, hj, rfl⟩ := List.getElem_of_mem hm
      have := h.low j hj (by omega); unfold GLt at this; omega
theorem build_pl (tx : Int) (k : Lok) (W : World) : Sem.run Try.prog (Instr.build 29 #[(0, .int .i64 tx), (1, .agg (lkCells k).toArray)]) W = .ok (.agg (grCells ⟨tx, k.page, k.slot, 0⟩).toArray) W := by kernel_rfl
abbrev plG (tx : Int) (k : Lok) : Gr := ⟨tx, k.page, k.slot, 0⟩
def PlPost (l : List Gr) (t : Gr) (w : World) (e : Ending) (w' : World) : Prop := ∃ i : Nat, e = .returned (.tuple #[.int .i64 i, .bool (keyAt l i t)]) ∧ PosG t l i ∧ Below w.heap.size w w'
set_option maxHeartbeats 4000000 in
theorem place_any (tx : Int) (k : Lok) (l : List Gr) (v : Value) (R : List Rng) (w : World) (hs : l.Pairwise GLt) (hv : GrRd v l R) (hR : RdIn w R) (hl : l.length ≤ 200000) :
    Calls Try.prog 70 #[v, .int .i64 tx, .agg (lkCells k).toArray] w (PlPost l (plG tx k) w) := by
  have HBs : Hid (∀ W, Below w.heap.size w W → Calls Try.prog 91 #[v, .agg (grCells (plG tx k)).toArray, .func (.func 77) #[] #[]] W (PlPost l (plG tx k) W)) := fun W hb => binSearch_any _ l v R W hs hv (hR.below hb) hl
  have h1 := (Hp.start w).put 27 (lkCells k)
  have HS0 : Hid (Hp w [.ob w.heap.size 27 (lkCells k)] (w.alloc (.cells (lkCells k).toArray 27))) := h1
  clear h1 hs hv hR hl
  obtain ⟨fs, hu⟩ := under_lk
  have HUK := Lib.hid hu
  clear hu
  go_enter Try.func70, Try.ntmps70
  go_upto_region 1 with (fail)
  generalize (w.alloc (.cells (lkCells k).toArray 27)) = w1 at *
  go_wp2_with (first | ((with_reducible refine wpList_load_ob 27 (.tmp 5) w.heap.size (lkCells k) 27 HUK.out ?_ ?_ ?_ ?_ ?_); (exact rfl); (exact HS0.out.get 0 rfl); (exact rfl); (exact info_lk); simp only [Act.put, List.setIfInBounds_toArray, List.set_cons_zero, List.set_cons_succ]) | ((with_reducible refine wpList_build_v (d := some 11) 29 (.agg (grCells (plG tx k)).toArray) ?_ ?_); (intro W; simp only [List.map_toArray, List.map_cons, List.map_nil]; exact build_pl tx k W); simp only [Act.put, List.setIfInBounds_toArray, List.set_cons_zero, List.set_cons_succ]))
  refine (HBs.out _ HS0.out.old).mono ?_
  rintro e w2 ⟨i, rfl, hp, hb⟩
  have HP := Lib.hid hp
  have HS1 := Lib.hid (HS0.out.calls hb)
  clear hp hb HS0 HBs
  go_wp2_with fail
  exact bodyPost_ret (v := .tuple #[.int .i64 i, .bool (keyAt l i (plG tx k))]) (by simp [results, Try.results70, go_sem]) rfl ⟨i, rfl, HP.out, HS1.out.old⟩
set_option maxHeartbeats 4000000 in
theorem pmode_any (tx : Int) (k : Lok) (l : List Gr) (v : Value) (R : List Rng) (w : World) (hs : l.Pairwise GLt) (hv : GrRd v l R) (hR : RdIn w R) (hl : l.length ≤ 200000) :
    Calls Try.prog 44 #[v, .int .i64 tx, .agg (lkCells k).toArray] w fun e w' => e = .returned (.int .i64 (modeR l tx k.page k.slot)) ∧ Below w.heap.size w w' := by
  have HPl : Hid (∀ W, Below w.heap.size w W → Calls Try.prog 70 #[v, .int .i64 tx, .agg (lkCells k).toArray] W (PlPost l (plG tx k) W)) := fun W hb => place_any tx k l v R W hs hv (hR.below hb) hl
  obtain ⟨a, cap, rfl, hnc, hcm, hg⟩ := SlRd.open hv hR
  have h1 := (Hp.start w).put 27 (lkCells k)
  have HS0 : Hid (Hp w [.ob w.heap.size 27 (lkCells k)] (w.alloc (.cells (lkCells k).toArray 27))) := h1
  have HSo := Lib.hid hs
  have HL := Lib.hid hl
  clear h1 hs hv hR hl hnc hcm
  obtain ⟨fs, hu⟩ := under_lk
  have HUK := Lib.hid hu
  clear hu
  have HM : Hid (modeR l tx k.page k.slot = (findK l tx k.page k.slot).elim 0 Gr.mode) := rfl
  go_enter Try.func44, Try.ntmps44
  go_upto_region 1 with (fail)
  generalize (w.alloc (.cells (lkCells k).toArray 27)) = w1 at *
  go_wp2_with (first | ((with_reducible refine wpList_load_ob 27 (.tmp 5) w.heap.size (lkCells k) 27 HUK.out ?_ ?_ ?_ ?_ ?_); (exact rfl); (exact HS0.out.get 0 rfl); (exact rfl); (exact info_lk); simp only [Act.put, List.setIfInBounds_toArray, List.set_cons_zero, List.set_cons_succ]))
  refine (HPl.out _ HS0.out.old).mono ?_
  rintro e w2 ⟨i, rfl, hp, hb⟩
  have hf := pos_find HSo.out hp
  have HS1 := Lib.hid (HS0.out.calls hb)
  simp only at hf
  clear hb HS0 HPl
  cases hq : keyAt l i (plG tx k)
  · rw [hq] at hf
    have HV : Hid (modeR l tx k.page k.slot = 0) := Lib.hid (by rw [HM.out, hf]; rfl)
    clear hf hp hg
    go_wp2_with fail
    go_ret
    exact ⟨by rw [HV.out]; rfl, HS1.out.old⟩
  · rw [hq, if_pos rfl] at hf
    have hil : i < l.length := by
      rcases Nat.lt_or_ge i l.length with h | h
      · exact h
      · unfold keyAt at hq; rw [List.getElem?_eq_none h] at hq; cases hq
    obtain ⟨x, hx⟩ : ∃ x, l[i]? = some x := ⟨_, List.getElem?_eq_getElem hil⟩
    have HV : Hid (modeR l tx k.page k.slot = x.mode) := Lib.hid (by rw [HM.out, hf, hx]; rfl)
    obtain ⟨g, off, rfl, hr⟩ := hg.out (by omega)
    have c3 : w2.cell? ⟨g, off + i * 4 + 3, none⟩ = some (.int .i64 x.mode) := by have := hr w2 HS1.out.old (i * 4 + 3) _ (grRow_at l i x hx 3 _ rfl); exact this
    have hi1 : (i : Int) < (l.length : Int) := by omega
    have hi0 : (0 : Int) ≤ (i : Int) := by omega
    clear hf hp hg hr hx hq HM
    go_wp2_with fail
    go_ret
    exact ⟨by rw [HV.out]; rfl, HS1.out.old⟩
set_option maxHeartbeats 4000000 in
theorem upgrade_any (g : Gr) (l : List Gr) (v : Value) (R : List Rng) (w : World) (hs : l.Pairwise GLt) (hv : GrRd v l R) (hR : RdIn w R) (hl : l.length ≤ 200000) :
    Calls Try.prog 74 #[v, .agg (grCells g).toArray] w fun e w' => e = .returned (.bool (decide (0 < modeG l g))) ∧ Below w.heap.size w w' := by
  have HMo : Hid (∀ W, Below w.heap.size w W → Calls Try.prog 44 #[v, .int .i64 g.tx, .agg #[.int .i64 g.page, .int .i64 g.slot]] W fun e w' => e = .returned (.int .i64 (modeG l g)) ∧ Below W.heap.size W w') := fun W hb => pmode_any g.tx g.lock l v R W hs hv (hR.below hb) hl
  have h1 := (Hp.start w).put 29 (grCells g)
  have HS0 : Hid (Hp w [.ob w.heap.size 29 (grCells g)] (w.alloc (.cells (grCells g).toArray 29))) := h1
  clear h1 hs hv hR hl
  go_enter Try.func74, Try.ntmps74
  go_upto_region 1 with (fail)
  generalize (w.alloc (.cells (grCells g).toArray 29)) = w1 at *
  have x0 : w1.cell? ⟨w.heap.size, 0, none⟩ = some (.int .i64 g.tx) := HS0.out.at 0 rfl 0 rfl
  have x1 : w1.cell? ⟨w.heap.size, 1, none⟩ = some (.int .i64 g.page) := HS0.out.at 0 rfl 1 rfl
  have x2 : w1.cell? ⟨w.heap.size, 2, none⟩ = some (.int .i64 g.slot) := HS0.out.at 0 rfl 2 rfl
  go_wp2_with fail
  refine (HMo.out _ HS0.out.old).mono ?_
  rintro e w2 ⟨rfl, hb⟩
  have HS1 := Lib.hid (HS0.out.calls hb)
  clear hb HS0 HMo x0 x1 x2
  go_wp2_with fail
  go_ret
  exact ⟨rfl, HS1.out.old⟩
theorem pos_le {t u : Gr} {l : List Gr} {p q : Nat} (h : PosG t l p) (k : PosG u l q) (htu : GLt t u) : p ≤ q := by
  rcases Nat.lt_or_ge q p with h1 | h1
  · exfalso
    have hq : q < l.length := Nat.lt_of_lt_of_le h1 h.le
    exact k.high q hq (Nat.le_refl _) ((h.low q hq h1).trans htu)
  · exact h1
theorem mem_part {t u x : Gr} {l : List Gr} {p q : Nat} (h : PosG t l p) (k : PosG u l q) (hx : x ∈ l) (h1 : GLt t x) (h2 : GLt x u) : x ∈ (l.take q).drop p := by
  obtain ⟨j, hj, rfl⟩ := List.getElem_of_mem hx
  have hpj : p ≤ j := by
    rcases Nat.lt_or_ge j p with h3 | h3
    · exact absurd (h.low j hj h3) (fun h4 => h4.asymm h1)
    · exact h3
  have hjq : j < q := by
    rcases Nat.lt_or_ge j q with h3 | h3
    · exact h3
    · exact absurd h2 (k.high j hj h3)
  rw [List.mem_iff_getElem?]
  refine ⟨j - p, ?_⟩
  rw [List.getElem?_drop, List.getElem?_take, if_pos (by omega), show p + (j - p) = j from by omega, List.getElem?_eq_getElem hj]
theorem part_any {l : List Gr} {k : Lok} {p q : Nat} (hl : HeldOk l) (h : PosG (plG 0 k) l p) (h2 : PosG (plG 1073741825 k) l q) (g : Gr) (hg : g.page = k.page ∧ g.slot = k.slot) : ((l.take q).drop p).any (fun x => confB g x) = l.any (fun x => confB g x) := by
  rw [Bool.eq_iff_iff, List.any_eq_true, List.any_eq_true]
  constructor
  · rintro ⟨x, hx, hc⟩
    exact ⟨x, List.mem_of_mem_take (List.mem_of_mem_drop hx), hc⟩
  · rintro ⟨x, hx, hc⟩
    refine ⟨x, ?_, hc⟩
    have hcf := confB_iff.1 hc
    have hok := hl.ok x hx
    have e1 := hcf.2.1
    have e2 := hcf.2.2.1
    have := hok.1
    refine mem_part h h2 hx ?_ ?_
    · unfold GLt; simp only; omega
    · unfold GLt; simp only; omega
def HoPost (l : List Gr) (k : Lok) (R : List Rng) (w : World) (e : Ending) (w' : World) : Prop :=
  ∃ v m R', e = .returned v ∧ GrRd v m R' ∧ RdIn w' R' ∧ (∀ r ∈ R', r.1 ∈ R.map (·.1)) ∧ m.length ≤ l.length ∧ (∀ x ∈ m, x ∈ l) ∧ (∀ g : Gr, g.page = k.page ∧ g.slot = k.slot → m.any (fun x => confB g x) = l.any (fun x => confB g x)) ∧ Below w.heap.size w w'
set_option maxHeartbeats 4000000 in
theorem holders_any (k : Lok) (l : List Gr) (v : Value) (R : List Rng) (w : World) (hs : HeldOk l) (hv : GrRd v l R) (hR : RdIn w R) (hl : l.length ≤ 200000) :
    Calls Try.prog 65 #[v, .agg (lkCells k).toArray] w (HoPost l k R w) := by
  have HPl : Hid (∀ tx W, Below w.heap.size w W → Calls Try.prog 70 #[v, .int .i64 tx, .agg (lkCells k).toArray] W (PlPost l (plG tx k) W)) := fun tx W hb => place_any tx k l v R W hs.up hv (hR.below hb) hl
  obtain ⟨a, cap, rfl, hnc, hcm⟩ := GrRd.shape hv
  have h1 := (Hp.start w).put 27 (lkCells k)
  have HS0 : Hid (Hp w [.ob w.heap.size 27 (lkCells k)] (w.alloc (.cells (lkCells k).toArray 27))) := h1
  have HSo := Lib.hid hs
  have HV := Lib.hid hv
  have HR := Lib.hid hR
  have HL := Lib.hid hl
  clear h1 hs hv hR hl
  obtain ⟨fs, hu⟩ := under_lk
  have HUK := Lib.hid hu
  clear hu
  go_enter Try.func65, Try.ntmps65
  go_upto_region 1 with (fail)
  generalize (w.alloc (.cells (lkCells k).toArray 27)) = w1 at *
  go_wp2_with (first | ((with_reducible refine wpList_load_ob 27 (.tmp 3) w.heap.size (lkCells k) 27 HUK.out ?_ ?_ ?_ ?_ ?_); (exact rfl); (exact HS0.out.get 0 rfl); (exact rfl); (exact info_lk); simp only [Act.put, List.setIfInBounds_toArray, List.set_cons_zero, List.set_cons_succ]))
  refine (HPl.out 0 _ HS0.out.old).mono ?_
  rintro e w2 ⟨p, rfl, hp, hb⟩
  have HP := Lib.hid hp
  have HS1 := Lib.hid (HS0.out.calls hb)
  clear hb HS0 hp
  go_wp2_with (first | ((with_reducible refine wpList_load_ob 27 (.tmp 3) w.heap.size (lkCells k) 27 HUK.out ?_ ?_ ?_ ?_ ?_); (exact rfl); (exact HS1.out.get 0 rfl); (exact rfl); (exact info_lk); simp only [Act.put, List.setIfInBounds_toArray, List.set_cons_zero, List.set_cons_succ]))
  refine (HPl.out 1073741825 _ HS1.out.old).mono ?_
  rintro e w3 ⟨q, rfl, hq, hb⟩
  have HQ := Lib.hid hq
  have HS2 := Lib.hid (HS1.out.calls hb)
  have hpq : p ≤ q := pos_le HP.out hq (.inr ⟨rfl, .inr ⟨rfl, by show (0 : Int) < 1073741825; decide⟩⟩)
  have hql : q ≤ l.length := hq.le
  obtain ⟨R1, h2, h3, h4⟩ := gr_take HV.out q hql
  have hlen : (l.take q).length = q := by rw [List.length_take]; omega
  rw [show (Value.slice a q cap) = .slice a (l.take q).length cap from by rw [hlen]] at h2
  obtain ⟨R2, h5, h6, h7⟩ := gr_drop h2 p (by omega)
  rw [hlen] at h5
  have HE : Hid (HoPost l k R w (.returned (.slice (if cap = p then a else Option.map (fun x => Addr.add x (p * 4)) a) (q - p) (cap - p))) w3) := by
    refine ⟨_, (l.take q).drop p, R2, rfl, h5, h6 _ (h3 _ (HR.out.below HS2.out.old)), fun r hr => ?_, by rw [List.length_drop, hlen]; omega, fun x hx => List.mem_of_mem_take (List.mem_of_mem_drop hx), fun g hg => part_any HSo.out HP.out HQ.out g hg, HS2.out.old⟩
    obtain ⟨r2, hr2, e2⟩ := List.mem_map.1 (h7 r hr)
    rw [← e2]
    exact h4 r2 hr2
  have hp0 : (0 : Int) ≤ (p : Int) := by omega
  have hpq' : (p : Int) ≤ (q : Int) := by omega
  have hql' : (q : Int) ≤ (l.length : Int) := by omega
  have hlc : (l.length : Int) ≤ (cap : Int) := by omega
  have hqc : (q : Int) ≤ (cap : Int) := by omega
  have hpc : (p : Int) ≤ (cap : Int) := by omega
  clear hb HS1 hq HPl h2 h3 h4 h5 h6 h7 hlen hpq hql
  by_cases hcp : cap = p
  · have HE2 : Hid (HoPost l k R w (.returned (.slice a (q - p) 0)) w3) := Lib.hid (by have h := HE.out; rw [if_pos hcp, hcp, Nat.sub_self] at h; exact h)
    clear HE
    subst hcp
    go_wp2_with fail
    go_ret
    exact HE2.out
  · have HE2 : Hid (HoPost l k R w (.returned (.slice (Option.map (fun x => Addr.add x (p * 4)) a) (q - p) (cap - p))) w3) := Lib.hid (by have h := HE.out; rw [if_neg hcp] at h; exact h)
    clear HE
    go_wp2_with fail
    go_ret
    exact HE2.out
end Go.Proofs.Ytooaldglgkjjgaa
/- the program's size and validHeld (locks) -/
namespace Go.Proofs.Ytooaldglgkjjgaa
open Go.RowKit
set_option maxRecDepth 20000
set_option linter.unusedSimpArgs false
set_option linter.unusedVariables false

theorem adj_free {a : List Gr} {x y : Gr} (h : HeldOk a) (hy : a.getLast? = some y) (hu : GLt y x) (hc : ¬ Conf y x) : ∀ z ∈ a, ¬ Conf z x := by
  obtain ⟨b, rfl⟩ : ∃ b, a = b ++ [y] := by
    rw [List.getLast?_eq_some_iff] at hy
    exact hy
  intro z hz hcf
  rcases List.mem_append.1 hz with hz | hz
  · have h1 := (List.pairwise_append.1 h.up).2.2 z hz y (by simp)
    have h2 := (List.pairwise_append.1 h.free).2.2 z hz y (by simp)
    unfold Conf at h2 hc hcf
    unfold GLt at h1 hu
    omega
  · obtain rfl : z = y := by simpa using hz
    exact hc hcf
noncomputable def heldB (l : List Gr) : Bool := @decide (HeldOk l) (Classical.propDecidable _)
theorem heldB_iff {l : List Gr} : heldB l = true ↔ HeldOk l := @decide_eq_true_iff _ (Classical.propDecidable _)
theorem heldB_no {l : List Gr} (h : ¬ HeldOk l) : heldB l = false := by
  cases e : heldB l with
  | false => rfl
  | true => exact absurd (heldB_iff.1 e) h
theorem heldB_yes {l : List Gr} (h : HeldOk l) : heldB l = true := heldB_iff.2 h
theorem h_grant {l : List Gr} {i : Nat} {x : Gr} (hx : l[i]? = some x) (h : grOkB x = false) : heldB l = false := heldB_no fun k => by
  have := grOkB_iff.2 (k.ok x (List.mem_of_getElem? hx)); rw [h] at this; cases this
theorem h_less {l : List Gr} {i p : Nat} {x y : Gr} (hx : l[i]? = some x) (hip : i = p + 1) (hy : l[p]? = some y) (h : ¬ GLt y x) : heldB l = false := heldB_no fun k => by
  obtain ⟨h1, rfl⟩ := List.getElem?_eq_some_iff.1 hx
  obtain ⟨h2, rfl⟩ := List.getElem?_eq_some_iff.1 hy
  exact h (List.pairwise_iff_getElem.1 k.up p i h2 h1 (by omega))
theorem h_conf {l : List Gr} {i p : Nat} {x y : Gr} (hx : l[i]? = some x) (hip : i = p + 1) (hy : l[p]? = some y) (h : Conf y x) : heldB l = false := heldB_no fun k => by
  obtain ⟨h1, rfl⟩ := List.getElem?_eq_some_iff.1 hx
  obtain ⟨h2, rfl⟩ := List.getElem?_eq_some_iff.1 hy
  exact (List.pairwise_iff_getElem.1 k.free p i h2 h1 (by omega)) h
set_option maxHeartbeats 4000000 in
theorem size_any {h v : Value} {t : Tb} {R : List Rng} (w : World) (ht : TbRd h v t R) (hg : GoodTb t) :
    Calls Try.prog 45 #[.agg (tbCells h v).toArray] w fun e w' => e = .returned (.int .i64 ((t.held.length : Int) + (t.wait.length : Int))) ∧ Below w.heap.size w w' := by
  obtain ⟨a, cap, rfl, hnc, hcm⟩ := ht.1.shape
  obtain ⟨a2, cap2, rfl, hnc2, hcm2⟩ := ht.2.shape
  have h1 := (Hp.start w).put 25 (tbCells (.slice a t.held.length cap) (.slice a2 t.wait.length cap2))
  have HS0 : Hid (Hp w [.ob w.heap.size 25 (tbCells (.slice a t.held.length cap) (.slice a2 t.wait.length cap2))] (w.alloc (.cells (tbCells (.slice a t.held.length cap) (.slice a2 t.wait.length cap2)).toArray 25))) := h1
  have hfew := hg.few
  have hsum : IntKind.i64.wrap ((t.held.length : Int) + (t.wait.length : Int)) = (t.held.length : Int) + (t.wait.length : Int) := IntWalk.i64_in _ (by omega)
  clear h1 ht hg hfew
  go_enter Try.func45, Try.ntmps45
  go_upto_region 1 with (fail)
  generalize (w.alloc (.cells (tbCells (.slice a t.held.length cap) (.slice a2 t.wait.length cap2)).toArray 25)) = w1 at *
  have b0 : w1.cell? ⟨w.heap.size, 0, none⟩ = some (.slice a t.held.length cap) := HS0.out.at 0 rfl 0 rfl
  have b1 : w1.cell? ⟨w.heap.size, 1, none⟩ = some (.slice a2 t.wait.length cap2) := HS0.out.at 0 rfl 1 rfl
  go_wp2_with fail
  go_ret
  exact ⟨rfl, HS0.out.old⟩
set_option maxHeartbeats 8000000 in
theorem validHeld_any (l : List Gr) (v : Value) (R : List Rng) (w : World) (hv : GrRd v l R) (hR : RdIn w R) (hgo : ∀ g ∈ l, GoodGr g) (hl : l.length ≤ 100000) :
    Calls Try.prog 55 #[v] w fun e w' => e = .returned (.bool (heldB l)) ∧ Below w.heap.size w w' := by
  obtain ⟨a, cap, rfl, hnc, hcm, hg0⟩ := SlRd.open hv hR
  have HGe := Lib.hid hgo
  have HNg : Hid (∀ (i : Nat) (x : Gr), l[i]? = some x → grOkB x = false → heldB l = false) := fun i x => h_grant
  have HNl : Hid (∀ (i p : Nat) (x y : Gr), l[i]? = some x → i = p + 1 → l[p]? = some y → ¬ GLt y x → heldB l = false) := fun i p x y => h_less
  have HNc : Hid (∀ (i p : Nat) (x y : Gr), l[i]? = some x → i = p + 1 → l[p]? = some y → Conf y x → heldB l = false) := fun i p x y => h_conf
  have HYes : Hid (HeldOk l → heldB l = true) := heldB_yes
  have HN : Hid ((l.length : Int) ≤ 100000) := Lib.hid (by omega)
  have HS0 := Lib.hid (Hp.start w)
  clear hv hR hgo hl hnc hcm
  obtain ⟨fs, hu⟩ := under_gr
  have HUG := Lib.hid hu
  clear hu
  generalize heldB l = ok at *
  go_enter Try.func55, Try.ntmps55
  go_wp2_with fail
  go_loopw [7] (fun iv wr => ∃ i : Nat, i ≤ l.length ∧ iv = .int .i64 i ∧ HeldOk (l.take i) ∧ Hp w [] wr) (fun iv _ => l.length - (intOf iv).toNat)
  case atStart => exact ⟨0, by omega, rfl, heldOk_nil, HS0.out⟩
  case round =>
    clear HS0
    obtain ⟨i, hi, rfl, hh, hs⟩ := hrel
    have HY := Lib.hid hs
    have HH := Lib.hid hh
    clear hs hh
    by_cases hlt : i < l.length
    · obtain ⟨g, off, rfl, hr⟩ := hg0.out (by omega)
      have HRg := Lib.hid hr
      obtain ⟨x, hx⟩ : ∃ x, l[i]? = some x := ⟨_, List.getElem?_eq_getElem hlt⟩
      have HXi := Lib.hid hx
      have HGx := Lib.hid (HGe.out x (List.mem_of_getElem? hx))
      have HGr : Hid (∀ W, Calls Try.prog 43 #[.agg (grCells x).toArray] W fun e w' => e = .returned (.bool (grOkB x)) ∧ Below W.heap.size W w') := fun W => pgrant_any x W
      have HOx := Lib.hid (@grOkB_iff x)
      have hNx := HNg.out i x hx
      have hii : (i : Int) < (l.length : Int) := by omega
      have hi0 : (0 : Int) ≤ (i : Int) := by omega
      have hiw : IntKind.i64.wrap ((i : Int) + 1) = (i : Int) + 1 := IntWalk.i64_in _ (by have := HN.out; omega)
      have HLt := Lib.hid hlt
      clear hr hi hx hg0
      go_upto_region 4 with (first | ((with_reducible refine wpList_load_at 29 (.tmp 10) g ((off + i * 4)) (grCells x) HUG.out ?_ ?_ ?_ ?_ ?_); (exact rfl); (exact (elem_rng (HRg.out _ (HY.out).old) HXi.out)); (exact rfl); (exact info_gr); simp only [Act.put, List.setIfInBounds_toArray, List.set_cons_zero, List.set_cons_succ]) | ((with_reducible refine wpList_alloc_ob 29 (grCells grNil) ?_ ?_); (exact alloc_gr); simp only [Act.put, List.setIfInBounds_toArray, List.set_cons_zero, List.set_cons_succ]) | ((with_reducible refine wpList_store_ob 29 (.tmp 4) (wr.heap.size) (grCells x) (grCells grNil) 29 ?_ ?_ ?_ ?_ ?_ ?_ ?_); (exact rfl); (exact rfl); (exact ((HY.out).put 29 (grCells grNil)).get 0 rfl); (exact info_gr); (exact rfl); (exact (oneCell_gr _)); skip))
      have HS21 : Hid (Hp w [.ob (wr.heap.size) 29 (grCells x)] ((wr.alloc (.cells (grCells grNil).toArray 29)).setRow (wr.heap.size) (grCells x).toArray)) := ((HY.out).put 29 (grCells grNil)).row 0 rfl (grCells x)
      clear HY
      generalize ((wr.alloc (.cells (grCells grNil).toArray 29)).setRow (wr.heap.size) (grCells x).toArray) = w21 at *
      generalize wr.heap.size = B21 at *
      generalize grOkB x = gb at *
      cases gb
      case false =>
        have HX := Lib.hid (hNx rfl)
        clear hNx HOx
        refine wp_region_held_drew (S := fun w' => w'.rangeAt B21 0 (grCells x)) (by kernel_rfl) ((fun j v hv => by rw [Nat.zero_add]; exact ((HS21.out).drew).at 0 rfl j hv)) (fun hHeld => ?_)
        refine wpAnyH_take (i := 0) (oi := { dst := some 12, op := Op.load 29 (Operand.tmp 4), type := 29, pos := "locks.go:60", after := #[], guard := none }) rfl (by kernel_rfl) (by kernel_rfl) (by kernel_rfl) (fun _ _ _ h => h) (yieldsIf_load_mid (by rfl) 29 (.tmp 4) rfl B21 (0) rfl (grCells x) _ (fun _ h => h) HUG.out rfl (info_gr)) hHeld ?_
        try simp only [Act.put, List.setIfInBounds_toArray, List.set_cons_zero, List.set_cons_succ]
        refine wpAnyH_ready (rs := [1]) (by kernel_rfl) (by simp) ?_
        refine AllReadyH.cons (o := { dst := some 13, op := Op.call { callee := Callee.value (Operand.func 43), args := #[Operand.tmp 12], argTypes := #[29] }, type := 4, pos := "locks.go:60", after := #[{ on := 0, ground := Ground.data }], guard := none }) rfl (fun K hK => ?_) (AllReadyH.nil)
        go_simp
        go_wp2_with (go_at_call 43; refine (HGr.out _).mono ?_; rintro e w61 ⟨rfl, hb⟩)
        have HS61 : Hid (Hp w [.ob B21 29 (grCells x)] w61) := ((HS21.out).drew).calls hb
        refine hK.out _ _ ((fun j v hv => by rw [Nat.zero_add]; exact (HS61.out).at 0 rfl j hv)) (fun hHeld => ?_)
        clear hK K hb
        try simp only [Act.put, List.setIfInBounds_toArray, List.set_cons_zero, List.set_cons_succ]
        refine wpAnyH_take (i := 2) (oi := { dst := some 14, op := Op.unOp UnOp.not 4 (Operand.tmp 13), type := 4, pos := "locks.go:60", after := #[{ on := 1, ground := Ground.data }], guard := none }) (v := .bool true) rfl (by kernel_rfl) (by kernel_rfl) (by kernel_rfl) (fun _ _ _ h => h) (Or.inl ⟨by rfl, ?q102h⟩) hHeld ?q102r
        case q102h => (intro wq hSw; clear hSw; go_simp; try with_reducible rfl)
        try simp only [Act.put, List.setIfInBounds_toArray, List.set_cons_zero, List.set_cons_succ]
        refine wpAnyH_take (i := 3) (oi := { dst := some 15, op := Op.move (Operand.tmp 14), type := 4, pos := "locks.go:60", after := #[{ on := 2, ground := Ground.data }, { on := 1, ground := Ground.chain }], guard := none }) (v := .bool true) rfl (by kernel_rfl) (by kernel_rfl) (by kernel_rfl) (fun _ _ _ h => h) (Or.inl ⟨by rfl, ?q103h⟩) hHeld ?q103r
        case q103h => (intro wq hSw; clear hSw; go_simp; try with_reducible rfl)
        try simp only [Act.put, List.setIfInBounds_toArray, List.set_cons_zero, List.set_cons_succ]
        refine wpAnyH_take (i := 4) (oi := { dst := some 16, op := Op.move (Operand.tmp 3), type := 3, pos := "locks.go:60", after := #[{ on := 3, ground := Ground.guard }], guard := some (3, false) }) (v := undef) rfl (by kernel_rfl) (by kernel_rfl) (by kernel_rfl) (fun _ _ _ h => h) (Or.inr ⟨by rfl, rfl⟩) hHeld ?_
        try simp only [Act.put, List.setIfInBounds_toArray, List.set_cons_zero, List.set_cons_succ]
        refine wpAnyH_take (i := 5) (oi := { dst := some 17, op := Op.binOp BinOp.gtr 3 (Operand.tmp 16) (Operand.const (Value.int IntKind.i64 0)) 3, type := 4, pos := "locks.go:60", after := #[{ on := 4, ground := Ground.data }, { on := 3, ground := Ground.guard }], guard := some (3, false) }) (v := undef) rfl (by kernel_rfl) (by kernel_rfl) (by kernel_rfl) (fun _ _ _ h => h) (Or.inr ⟨by rfl, rfl⟩) hHeld ?_
        try simp only [Act.put, List.setIfInBounds_toArray, List.set_cons_zero, List.set_cons_succ]
        refine wpAnyH_take (i := 6) (oi := { dst := some 18, op := Op.move (Operand.tmp 17), type := 4, pos := "locks.go:60", after := #[{ on := 5, ground := Ground.data }, { on := 3, ground := Ground.chain }, { on := 3, ground := Ground.guard }], guard := some (3, false) }) (v := undef) rfl (by kernel_rfl) (by kernel_rfl) (by kernel_rfl) (fun _ _ _ h => h) (Or.inr ⟨by rfl, rfl⟩) hHeld ?_
        try simp only [Act.put, List.setIfInBounds_toArray, List.set_cons_zero, List.set_cons_succ]
        refine wpAnyH_take (i := 7) (oi := { dst := some 19, op := Op.move (Operand.tmp 0), type := 23, pos := "locks.go:60", after := #[{ on := 6, ground := Ground.guard }], guard := some (6, true) }) (v := undef) rfl (by kernel_rfl) (by kernel_rfl) (by kernel_rfl) (fun _ _ _ h => h) (Or.inr ⟨by rfl, rfl⟩) hHeld ?_
        try simp only [Act.put, List.setIfInBounds_toArray, List.set_cons_zero, List.set_cons_succ]
        refine wpAnyH_take (i := 8) (oi := { dst := some 20, op := Op.move (Operand.tmp 3), type := 3, pos := "locks.go:60", after := #[{ on := 6, ground := Ground.guard }], guard := some (6, true) }) (v := undef) rfl (by kernel_rfl) (by kernel_rfl) (by kernel_rfl) (fun _ _ _ h => h) (Or.inr ⟨by rfl, rfl⟩) hHeld ?_
        try simp only [Act.put, List.setIfInBounds_toArray, List.set_cons_zero, List.set_cons_succ]
        refine wpAnyH_take (i := 9) (oi := { dst := some 21, op := Op.binOp BinOp.sub 3 (Operand.tmp 20) (Operand.const (Value.int IntKind.i64 1)) 3, type := 3, pos := "locks.go:60", after := #[{ on := 8, ground := Ground.data }, { on := 6, ground := Ground.guard }], guard := some (6, true) }) (v := undef) rfl (by kernel_rfl) (by kernel_rfl) (by kernel_rfl) (fun _ _ _ h => h) (Or.inr ⟨by rfl, rfl⟩) hHeld ?_
        try simp only [Act.put, List.setIfInBounds_toArray, List.set_cons_zero, List.set_cons_succ]
        refine wpAnyH_take (i := 10) (oi := { dst := some 22, op := Op.indexAddr 23 (Operand.tmp 19) (Operand.tmp 21), type := 0, pos := "locks.go:60", after := #[{ on := 7, ground := Ground.data }, { on := 9, ground := Ground.data }, { on := 6, ground := Ground.guard }], guard := some (6, true) }) (v := undef) rfl (by kernel_rfl) (by kernel_rfl) (by kernel_rfl) (fun _ _ _ h => h) (Or.inr ⟨by rfl, rfl⟩) hHeld ?_
        try simp only [Act.put, List.setIfInBounds_toArray, List.set_cons_zero, List.set_cons_succ]
        refine wpAnyH_take (i := 11) (oi := { dst := some 23, op := Op.load 29 (Operand.tmp 22), type := 29, pos := "locks.go:60", after := #[{ on := 10, ground := Ground.data }, { on := 6, ground := Ground.guard }], guard := some (6, true) }) (v := undef) rfl (by kernel_rfl) (by kernel_rfl) (by kernel_rfl) (fun _ _ _ h => h) (Or.inr ⟨by rfl, rfl⟩) hHeld ?_
        try simp only [Act.put, List.setIfInBounds_toArray, List.set_cons_zero, List.set_cons_succ]
        refine wpAnyH_take (i := 12) (oi := { dst := some 24, op := Op.load 29 (Operand.tmp 4), type := 29, pos := "locks.go:60", after := #[{ on := 6, ground := Ground.guard }], guard := some (6, true) }) (v := undef) rfl (by kernel_rfl) (by kernel_rfl) (by kernel_rfl) (fun _ _ _ h => h) (Or.inr ⟨by rfl, rfl⟩) hHeld ?_
        try simp only [Act.put, List.setIfInBounds_toArray, List.set_cons_zero, List.set_cons_succ]
        refine wpAnyH_ready (rs := [13]) (by kernel_rfl) (by simp) ?_
        refine AllReadyH.cons (o := { dst := some 25, op := Op.call { callee := Callee.value (Operand.func 77), args := #[Operand.tmp 23, Operand.tmp 24], argTypes := #[29, 29] }, type := 3, pos := "locks.go:60", after := #[{ on := 11, ground := Ground.data }, { on := 12, ground := Ground.data }, { on := 6, ground := Ground.chain }, { on := 6, ground := Ground.guard }], guard := some (6, true) }) rfl (fun K hK => ?_) (AllReadyH.nil)
        rw [if_neg (by exact Bool.false_ne_true)]
        have HS62 : Hid (Hp w [.ob B21 29 (grCells x)] w61) := HS61.out
        refine hK.out _ _ ((fun j v hv => by rw [Nat.zero_add]; exact (HS62.out).at 0 rfl j hv)) (fun hHeld => ?_)
        clear hK K
        try simp only [Act.put, List.setIfInBounds_toArray, List.set_cons_zero, List.set_cons_succ]
        refine wpAnyH_take (i := 14) (oi := { dst := some 26, op := Op.binOp BinOp.geq 3 (Operand.tmp 25) (Operand.const (Value.int IntKind.i64 0)) 3, type := 4, pos := "locks.go:60", after := #[{ on := 13, ground := Ground.data }, { on := 6, ground := Ground.guard }], guard := some (6, true) }) (v := undef) rfl (by kernel_rfl) (by kernel_rfl) (by kernel_rfl) (fun _ _ _ h => h) (Or.inr ⟨by rfl, rfl⟩) hHeld ?_
        try simp only [Act.put, List.setIfInBounds_toArray, List.set_cons_zero, List.set_cons_succ]
        refine wpAnyH_take (i := 15) (oi := { dst := some 27, op := Op.move (Operand.tmp 26), type := 4, pos := "locks.go:60", after := #[{ on := 14, ground := Ground.data }, { on := 13, ground := Ground.chain }, { on := 6, ground := Ground.guard }], guard := some (6, true) }) (v := undef) rfl (by kernel_rfl) (by kernel_rfl) (by kernel_rfl) (fun _ _ _ h => h) (Or.inr ⟨by rfl, rfl⟩) hHeld ?_
        try simp only [Act.put, List.setIfInBounds_toArray, List.set_cons_zero, List.set_cons_succ]
        refine wpAnyH_take (i := 16) (oi := { dst := some 28, op := Op.move (Operand.tmp 0), type := 23, pos := "locks.go:60", after := #[{ on := 15, ground := Ground.guard }], guard := some (15, false) }) (v := undef) rfl (by kernel_rfl) (by kernel_rfl) (by kernel_rfl) (fun _ _ _ h => h) (Or.inr ⟨by rfl, rfl⟩) hHeld ?_
        try simp only [Act.put, List.setIfInBounds_toArray, List.set_cons_zero, List.set_cons_succ]
        refine wpAnyH_take (i := 17) (oi := { dst := some 29, op := Op.move (Operand.tmp 3), type := 3, pos := "locks.go:60", after := #[{ on := 15, ground := Ground.guard }], guard := some (15, false) }) (v := undef) rfl (by kernel_rfl) (by kernel_rfl) (by kernel_rfl) (fun _ _ _ h => h) (Or.inr ⟨by rfl, rfl⟩) hHeld ?_
        try simp only [Act.put, List.setIfInBounds_toArray, List.set_cons_zero, List.set_cons_succ]
        refine wpAnyH_take (i := 18) (oi := { dst := some 30, op := Op.binOp BinOp.sub 3 (Operand.tmp 29) (Operand.const (Value.int IntKind.i64 1)) 3, type := 3, pos := "locks.go:60", after := #[{ on := 17, ground := Ground.data }, { on := 15, ground := Ground.guard }], guard := some (15, false) }) (v := undef) rfl (by kernel_rfl) (by kernel_rfl) (by kernel_rfl) (fun _ _ _ h => h) (Or.inr ⟨by rfl, rfl⟩) hHeld ?_
        try simp only [Act.put, List.setIfInBounds_toArray, List.set_cons_zero, List.set_cons_succ]
        refine wpAnyH_take (i := 19) (oi := { dst := some 31, op := Op.indexAddr 23 (Operand.tmp 28) (Operand.tmp 30), type := 0, pos := "locks.go:60", after := #[{ on := 16, ground := Ground.data }, { on := 18, ground := Ground.data }, { on := 15, ground := Ground.guard }], guard := some (15, false) }) (v := undef) rfl (by kernel_rfl) (by kernel_rfl) (by kernel_rfl) (fun _ _ _ h => h) (Or.inr ⟨by rfl, rfl⟩) hHeld ?_
        try simp only [Act.put, List.setIfInBounds_toArray, List.set_cons_zero, List.set_cons_succ]
        refine wpAnyH_take (i := 20) (oi := { dst := some 32, op := Op.load 29 (Operand.tmp 31), type := 29, pos := "locks.go:60", after := #[{ on := 19, ground := Ground.data }, { on := 15, ground := Ground.guard }], guard := some (15, false) }) (v := undef) rfl (by kernel_rfl) (by kernel_rfl) (by kernel_rfl) (fun _ _ _ h => h) (Or.inr ⟨by rfl, rfl⟩) hHeld ?_
        try simp only [Act.put, List.setIfInBounds_toArray, List.set_cons_zero, List.set_cons_succ]
        refine wpAnyH_take (i := 21) (oi := { dst := some 33, op := Op.load 29 (Operand.tmp 4), type := 29, pos := "locks.go:60", after := #[{ on := 15, ground := Ground.guard }], guard := some (15, false) }) (v := undef) rfl (by kernel_rfl) (by kernel_rfl) (by kernel_rfl) (fun _ _ _ h => h) (Or.inr ⟨by rfl, rfl⟩) hHeld ?_
        try simp only [Act.put, List.setIfInBounds_toArray, List.set_cons_zero, List.set_cons_succ]
        refine wpAnyH_ready (rs := [22]) (by kernel_rfl) (by simp) ?_
        refine AllReadyH.cons (o := { dst := some 34, op := Op.call { callee := Callee.value (Operand.func 78), args := #[Operand.tmp 32, Operand.tmp 33], argTypes := #[29, 29] }, type := 4, pos := "locks.go:60", after := #[{ on := 20, ground := Ground.data }, { on := 21, ground := Ground.data }, { on := 15, ground := Ground.chain }, { on := 15, ground := Ground.guard }], guard := some (15, false) }) rfl (fun K hK => ?_) (AllReadyH.nil)
        rw [if_neg (by exact Bool.false_ne_true)]
        have HS63 : Hid (Hp w [.ob B21 29 (grCells x)] w61) := HS62.out
        refine hK.out _ _ ((fun j v hv => by rw [Nat.zero_add]; exact (HS63.out).at 0 rfl j hv)) (fun hHeld => ?_)
        clear hK K
        try simp only [Act.put, List.setIfInBounds_toArray, List.set_cons_zero, List.set_cons_succ]
        refine wpAnyH_take (i := 23) (oi := { dst := some 35, op := Op.pick (Operand.tmp 27) (Operand.const (Value.bool true)) (Operand.tmp 34), type := 4, pos := "locks.go:60", after := #[{ on := 15, ground := Ground.data }, { on := 22, ground := Ground.data }, { on := 6, ground := Ground.guard }], guard := some (6, true) }) (v := undef) rfl (by kernel_rfl) (by kernel_rfl) (by kernel_rfl) (fun _ _ _ h => h) (Or.inr ⟨by rfl, rfl⟩) hHeld ?_
        try simp only [Act.put, List.setIfInBounds_toArray, List.set_cons_zero, List.set_cons_succ]
        refine wpAnyH_take (i := 24) (oi := { dst := some 36, op := Op.pick (Operand.tmp 18) (Operand.tmp 35) (Operand.const (Value.bool false)), type := 4, pos := "locks.go:60", after := #[{ on := 6, ground := Ground.data }, { on := 23, ground := Ground.data }, { on := 3, ground := Ground.guard }], guard := some (3, false) }) (v := undef) rfl (by kernel_rfl) (by kernel_rfl) (by kernel_rfl) (fun _ _ _ h => h) (Or.inr ⟨by rfl, rfl⟩) hHeld ?_
        try simp only [Act.put, List.setIfInBounds_toArray, List.set_cons_zero, List.set_cons_succ]
        refine wpAnyH_take (i := 25) (oi := { dst := some 37, op := Op.pick (Operand.tmp 15) (Operand.const (Value.bool true)) (Operand.tmp 36), type := 4, pos := "locks.go:60", after := #[{ on := 3, ground := Ground.data }, { on := 24, ground := Ground.data }], guard := none }) (v := ?q123v) rfl (by kernel_rfl) (by kernel_rfl) (by kernel_rfl) (fun _ _ _ h => h) (Or.inl ⟨by rfl, ?q123h⟩) hHeld ?q123r
        case q123h => (intro wq hSw; clear hSw; go_simp; try with_reducible rfl)
        try simp only [Act.put, List.setIfInBounds_toArray, List.set_cons_zero, List.set_cons_succ]
        refine wpAnyH_done (by kernel_rfl) ?_ _
        clear hHeld
        go_wp2_with fail
        go_ret
        exact ⟨by rw [HX.out]; rfl, (HS63.out).old⟩
      case true =>
        have HOk1 := Lib.hid (HOx.out.1 rfl)
        clear hNx HOx
        by_cases hi1 : (0 : Int) < (i : Int)
        · obtain ⟨p, hip⟩ : ∃ p, i = p + 1 := ⟨i - 1, by omega⟩
          have HIp := Lib.hid hip
          have hpw : IntKind.i64.wrap ((i : Int) - 1) = (p : Int) := by rw [show (i : Int) - 1 = (p : Int) by omega]; exact IntWalk.i64_in _ (by have := HN.out; omega)
          have hpi : (p : Int) < (l.length : Int) := by omega
          have hp0 : (0 : Int) ≤ (p : Int) := by omega
          obtain ⟨y, hy⟩ : ∃ y, l[p]? = some y := ⟨_, List.getElem?_eq_getElem (by omega)⟩
          have HYp := Lib.hid hy
          have HGy := Lib.hid (HGe.out y (List.mem_of_getElem? hy))
          have HOr : Hid (∀ W, Calls Try.prog 77 #[.agg (grCells y).toArray, .agg (grCells x).toArray] W fun e w' => e = .returned (.int .i64 (ordI y x)) ∧ Below W.heap.size W w') := fun W => order_any y x W
          have HCf : Hid (∀ W, Calls Try.prog 78 #[.agg (grCells y).toArray, .agg (grCells x).toArray] W fun e w' => e = .returned (.bool (confB y x)) ∧ Below W.heap.size W w') := fun W => pconflict_any y x W HGy.out HGx.out
          have hNx := HNl.out i p x y HXi.out hip hy
          have hNy := HNc.out i p x y HXi.out hip hy
          have hneg := @ordI_neg y x
          have hcf := @confB_iff y x
          have dp : decide ((0 : Int) < (i : Int)) = true := decide_eq_true hi1
          have hi2 : 0 < i := by omega
          clear hip hy hi1
          generalize ordI y x = ov at *
          generalize confB y x = cf at *
          by_cases ho : ov < 0
          · have HG := Lib.hid (hneg.1 ho)
            have dov : decide (0 ≤ ov) = false := decide_eq_false (by omega)
            have HU : Hid (∀ z, (l.take i).getLast? = some z → GLt z x) := fun z hz => by
              rw [last_take HIp.out HYp.out] at hz
              rw [← Option.some.inj hz]; exact HG.out
            clear hNx hneg ho
            cases cf
            case true =>
              have HX := Lib.hid (hNy (hcf.1 rfl))
              clear hNy hcf
              refine wp_region_held_drew (S := fun w' => w'.rangeAt B21 0 (grCells x) ∧ w'.rangeAt g (off + p * 4) (grCells y)) (by kernel_rfl) (⟨(fun j v hv => by rw [Nat.zero_add]; exact ((HS21.out).drew).at 0 rfl j hv), (elem_rng (HRg.out _ ((HS21.out).drew).old) HYp.out)⟩) (fun hHeld => ?_)
              refine wpAnyH_take (i := 0) (oi := { dst := some 12, op := Op.load 29 (Operand.tmp 4), type := 29, pos := "locks.go:60", after := #[], guard := none }) rfl (by kernel_rfl) (by kernel_rfl) (by kernel_rfl) (fun _ _ _ h => h) (yieldsIf_load_mid (by rfl) 29 (.tmp 4) rfl B21 (0) rfl (grCells x) _ (fun _ h => h.1) HUG.out rfl (info_gr)) hHeld ?_
              try simp only [Act.put, List.setIfInBounds_toArray, List.set_cons_zero, List.set_cons_succ]
              refine wpAnyH_ready (rs := [1]) (by kernel_rfl) (by simp) ?_
              refine AllReadyH.cons (o := { dst := some 13, op := Op.call { callee := Callee.value (Operand.func 43), args := #[Operand.tmp 12], argTypes := #[29] }, type := 4, pos := "locks.go:60", after := #[{ on := 0, ground := Ground.data }], guard := none }) rfl (fun K hK => ?_) (AllReadyH.nil)
              go_simp
              go_wp2_with (go_at_call 43; refine (HGr.out _).mono ?_; rintro e w61 ⟨rfl, hb⟩)
              have HS61 : Hid (Hp w [.ob B21 29 (grCells x)] w61) := ((HS21.out).drew).calls hb
              refine hK.out _ _ (⟨(fun j v hv => by rw [Nat.zero_add]; exact (HS61.out).at 0 rfl j hv), (elem_rng (HRg.out _ (HS61.out).old) HYp.out)⟩) (fun hHeld => ?_)
              clear hK K hb
              try simp only [Act.put, List.setIfInBounds_toArray, List.set_cons_zero, List.set_cons_succ]
              refine wpAnyH_take (i := 2) (oi := { dst := some 14, op := Op.unOp UnOp.not 4 (Operand.tmp 13), type := 4, pos := "locks.go:60", after := #[{ on := 1, ground := Ground.data }], guard := none }) (v := .bool false) rfl (by kernel_rfl) (by kernel_rfl) (by kernel_rfl) (fun _ _ _ h => h) (Or.inl ⟨by rfl, ?q402h⟩) hHeld ?q402r
              case q402h => (intro wq hSw; clear hSw; go_simp; try with_reducible rfl)
              try simp only [Act.put, List.setIfInBounds_toArray, List.set_cons_zero, List.set_cons_succ]
              refine wpAnyH_take (i := 3) (oi := { dst := some 15, op := Op.move (Operand.tmp 14), type := 4, pos := "locks.go:60", after := #[{ on := 2, ground := Ground.data }, { on := 1, ground := Ground.chain }], guard := none }) (v := ?q403v) rfl (by kernel_rfl) (by kernel_rfl) (by kernel_rfl) (fun _ _ _ h => h) (Or.inl ⟨by rfl, ?q403h⟩) hHeld ?q403r
              case q403h => (intro wq hSw; clear hSw; go_simp; try with_reducible rfl)
              try simp only [Act.put, List.setIfInBounds_toArray, List.set_cons_zero, List.set_cons_succ]
              refine wpAnyH_take (i := 4) (oi := { dst := some 16, op := Op.move (Operand.tmp 3), type := 3, pos := "locks.go:60", after := #[{ on := 3, ground := Ground.guard }], guard := some (3, false) }) (v := ?q404v) rfl (by kernel_rfl) (by kernel_rfl) (by kernel_rfl) (fun _ _ _ h => h) (Or.inl ⟨by rfl, ?q404h⟩) hHeld ?q404r
              case q404h => (intro wq hSw; clear hSw; go_simp; try with_reducible rfl)
              try simp only [Act.put, List.setIfInBounds_toArray, List.set_cons_zero, List.set_cons_succ]
              refine wpAnyH_take (i := 5) (oi := { dst := some 17, op := Op.binOp BinOp.gtr 3 (Operand.tmp 16) (Operand.const (Value.int IntKind.i64 0)) 3, type := 4, pos := "locks.go:60", after := #[{ on := 4, ground := Ground.data }, { on := 3, ground := Ground.guard }], guard := some (3, false) }) (v := .bool true) rfl (by kernel_rfl) (by kernel_rfl) (by kernel_rfl) (fun _ _ _ h => h) (Or.inl ⟨by rfl, ?q405h⟩) hHeld ?q405r
              case q405h => (intro wq hSw; clear hSw; go_simp; try with_reducible rfl)
              try simp only [Act.put, List.setIfInBounds_toArray, List.set_cons_zero, List.set_cons_succ]
              refine wpAnyH_take (i := 6) (oi := { dst := some 18, op := Op.move (Operand.tmp 17), type := 4, pos := "locks.go:60", after := #[{ on := 5, ground := Ground.data }, { on := 3, ground := Ground.chain }, { on := 3, ground := Ground.guard }], guard := some (3, false) }) (v := ?q406v) rfl (by kernel_rfl) (by kernel_rfl) (by kernel_rfl) (fun _ _ _ h => h) (Or.inl ⟨by rfl, ?q406h⟩) hHeld ?q406r
              case q406h => (intro wq hSw; clear hSw; go_simp; try with_reducible rfl)
              try simp only [Act.put, List.setIfInBounds_toArray, List.set_cons_zero, List.set_cons_succ]
              refine wpAnyH_take (i := 7) (oi := { dst := some 19, op := Op.move (Operand.tmp 0), type := 23, pos := "locks.go:60", after := #[{ on := 6, ground := Ground.guard }], guard := some (6, true) }) (v := ?q407v) rfl (by kernel_rfl) (by kernel_rfl) (by kernel_rfl) (fun _ _ _ h => h) (Or.inl ⟨by rfl, ?q407h⟩) hHeld ?q407r
              case q407h => (intro wq hSw; clear hSw; go_simp; try with_reducible rfl)
              try simp only [Act.put, List.setIfInBounds_toArray, List.set_cons_zero, List.set_cons_succ]
              refine wpAnyH_take (i := 8) (oi := { dst := some 20, op := Op.move (Operand.tmp 3), type := 3, pos := "locks.go:60", after := #[{ on := 6, ground := Ground.guard }], guard := some (6, true) }) (v := ?q408v) rfl (by kernel_rfl) (by kernel_rfl) (by kernel_rfl) (fun _ _ _ h => h) (Or.inl ⟨by rfl, ?q408h⟩) hHeld ?q408r
              case q408h => (intro wq hSw; clear hSw; go_simp; try with_reducible rfl)
              try simp only [Act.put, List.setIfInBounds_toArray, List.set_cons_zero, List.set_cons_succ]
              refine wpAnyH_take (i := 9) (oi := { dst := some 21, op := Op.binOp BinOp.sub 3 (Operand.tmp 20) (Operand.const (Value.int IntKind.i64 1)) 3, type := 3, pos := "locks.go:60", after := #[{ on := 8, ground := Ground.data }, { on := 6, ground := Ground.guard }], guard := some (6, true) }) (v := ?q409v) rfl (by kernel_rfl) (by kernel_rfl) (by kernel_rfl) (fun _ _ _ h => h) (Or.inl ⟨by rfl, ?q409h⟩) hHeld ?q409r
              case q409h => (intro wq hSw; clear hSw; go_simp; try with_reducible rfl)
              try simp only [Act.put, List.setIfInBounds_toArray, List.set_cons_zero, List.set_cons_succ]
              refine wpAnyH_take (i := 10) (oi := { dst := some 22, op := Op.indexAddr 23 (Operand.tmp 19) (Operand.tmp 21), type := 0, pos := "locks.go:60", after := #[{ on := 7, ground := Ground.data }, { on := 9, ground := Ground.data }, { on := 6, ground := Ground.guard }], guard := some (6, true) }) (v := ?q410v) rfl (by kernel_rfl) (by kernel_rfl) (by kernel_rfl) (fun _ _ _ h => h) (Or.inl ⟨by rfl, ?q410h⟩) hHeld ?q410r
              case q410h => (intro wq hSw; clear hSw; go_simp; try with_reducible rfl)
              try simp only [Act.put, List.setIfInBounds_toArray, List.set_cons_zero, List.set_cons_succ]
              refine wpAnyH_take (i := 11) (oi := { dst := some 23, op := Op.load 29 (Operand.tmp 22), type := 29, pos := "locks.go:60", after := #[{ on := 10, ground := Ground.data }, { on := 6, ground := Ground.guard }], guard := some (6, true) }) rfl (by kernel_rfl) (by kernel_rfl) (by kernel_rfl) (fun _ _ _ h => h) (yieldsIf_load_mid (by rfl) 29 (.tmp 22) rfl g (off + p * 4) rfl (grCells y) _ (fun _ h => h.2) HUG.out rfl (info_gr)) hHeld ?_
              try simp only [Act.put, List.setIfInBounds_toArray, List.set_cons_zero, List.set_cons_succ]
              refine wpAnyH_take (i := 12) (oi := { dst := some 24, op := Op.load 29 (Operand.tmp 4), type := 29, pos := "locks.go:60", after := #[{ on := 6, ground := Ground.guard }], guard := some (6, true) }) rfl (by kernel_rfl) (by kernel_rfl) (by kernel_rfl) (fun _ _ _ h => h) (yieldsIf_load_mid (by rfl) 29 (.tmp 4) rfl B21 (0) rfl (grCells x) _ (fun _ h => h.1) HUG.out rfl (info_gr)) hHeld ?_
              try simp only [Act.put, List.setIfInBounds_toArray, List.set_cons_zero, List.set_cons_succ]
              refine wpAnyH_ready (rs := [13]) (by kernel_rfl) (by simp) ?_
              refine AllReadyH.cons (o := { dst := some 25, op := Op.call { callee := Callee.value (Operand.func 77), args := #[Operand.tmp 23, Operand.tmp 24], argTypes := #[29, 29] }, type := 3, pos := "locks.go:60", after := #[{ on := 11, ground := Ground.data }, { on := 12, ground := Ground.data }, { on := 6, ground := Ground.chain }, { on := 6, ground := Ground.guard }], guard := some (6, true) }) rfl (fun K hK => ?_) (AllReadyH.nil)
              go_simp
              go_wp2_with (go_at_call 77; refine (HOr.out _).mono ?_; rintro e w62 ⟨rfl, hb⟩)
              have HS62 : Hid (Hp w [.ob B21 29 (grCells x)] w62) := (HS61.out).calls hb
              refine hK.out _ _ (⟨(fun j v hv => by rw [Nat.zero_add]; exact (HS62.out).at 0 rfl j hv), (elem_rng (HRg.out _ (HS62.out).old) HYp.out)⟩) (fun hHeld => ?_)
              clear hK K hb
              try simp only [Act.put, List.setIfInBounds_toArray, List.set_cons_zero, List.set_cons_succ]
              refine wpAnyH_take (i := 14) (oi := { dst := some 26, op := Op.binOp BinOp.geq 3 (Operand.tmp 25) (Operand.const (Value.int IntKind.i64 0)) 3, type := 4, pos := "locks.go:60", after := #[{ on := 13, ground := Ground.data }, { on := 6, ground := Ground.guard }], guard := some (6, true) }) (v := .bool false) rfl (by kernel_rfl) (by kernel_rfl) (by kernel_rfl) (fun _ _ _ h => h) (Or.inl ⟨by rfl, ?q413h⟩) hHeld ?q413r
              case q413h => (intro wq hSw; clear hSw; go_simp; try with_reducible rfl)
              try simp only [Act.put, List.setIfInBounds_toArray, List.set_cons_zero, List.set_cons_succ]
              refine wpAnyH_take (i := 15) (oi := { dst := some 27, op := Op.move (Operand.tmp 26), type := 4, pos := "locks.go:60", after := #[{ on := 14, ground := Ground.data }, { on := 13, ground := Ground.chain }, { on := 6, ground := Ground.guard }], guard := some (6, true) }) (v := ?q414v) rfl (by kernel_rfl) (by kernel_rfl) (by kernel_rfl) (fun _ _ _ h => h) (Or.inl ⟨by rfl, ?q414h⟩) hHeld ?q414r
              case q414h => (intro wq hSw; clear hSw; go_simp; try with_reducible rfl)
              try simp only [Act.put, List.setIfInBounds_toArray, List.set_cons_zero, List.set_cons_succ]
              refine wpAnyH_take (i := 16) (oi := { dst := some 28, op := Op.move (Operand.tmp 0), type := 23, pos := "locks.go:60", after := #[{ on := 15, ground := Ground.guard }], guard := some (15, false) }) (v := ?q415v) rfl (by kernel_rfl) (by kernel_rfl) (by kernel_rfl) (fun _ _ _ h => h) (Or.inl ⟨by rfl, ?q415h⟩) hHeld ?q415r
              case q415h => (intro wq hSw; clear hSw; go_simp; try with_reducible rfl)
              try simp only [Act.put, List.setIfInBounds_toArray, List.set_cons_zero, List.set_cons_succ]
              refine wpAnyH_take (i := 17) (oi := { dst := some 29, op := Op.move (Operand.tmp 3), type := 3, pos := "locks.go:60", after := #[{ on := 15, ground := Ground.guard }], guard := some (15, false) }) (v := ?q416v) rfl (by kernel_rfl) (by kernel_rfl) (by kernel_rfl) (fun _ _ _ h => h) (Or.inl ⟨by rfl, ?q416h⟩) hHeld ?q416r
              case q416h => (intro wq hSw; clear hSw; go_simp; try with_reducible rfl)
              try simp only [Act.put, List.setIfInBounds_toArray, List.set_cons_zero, List.set_cons_succ]
              refine wpAnyH_take (i := 18) (oi := { dst := some 30, op := Op.binOp BinOp.sub 3 (Operand.tmp 29) (Operand.const (Value.int IntKind.i64 1)) 3, type := 3, pos := "locks.go:60", after := #[{ on := 17, ground := Ground.data }, { on := 15, ground := Ground.guard }], guard := some (15, false) }) (v := ?q417v) rfl (by kernel_rfl) (by kernel_rfl) (by kernel_rfl) (fun _ _ _ h => h) (Or.inl ⟨by rfl, ?q417h⟩) hHeld ?q417r
              case q417h => (intro wq hSw; clear hSw; go_simp; try with_reducible rfl)
              try simp only [Act.put, List.setIfInBounds_toArray, List.set_cons_zero, List.set_cons_succ]
              refine wpAnyH_take (i := 19) (oi := { dst := some 31, op := Op.indexAddr 23 (Operand.tmp 28) (Operand.tmp 30), type := 0, pos := "locks.go:60", after := #[{ on := 16, ground := Ground.data }, { on := 18, ground := Ground.data }, { on := 15, ground := Ground.guard }], guard := some (15, false) }) (v := ?q418v) rfl (by kernel_rfl) (by kernel_rfl) (by kernel_rfl) (fun _ _ _ h => h) (Or.inl ⟨by rfl, ?q418h⟩) hHeld ?q418r
              case q418h => (intro wq hSw; clear hSw; go_simp; try with_reducible rfl)
              try simp only [Act.put, List.setIfInBounds_toArray, List.set_cons_zero, List.set_cons_succ]
              refine wpAnyH_take (i := 20) (oi := { dst := some 32, op := Op.load 29 (Operand.tmp 31), type := 29, pos := "locks.go:60", after := #[{ on := 19, ground := Ground.data }, { on := 15, ground := Ground.guard }], guard := some (15, false) }) rfl (by kernel_rfl) (by kernel_rfl) (by kernel_rfl) (fun _ _ _ h => h) (yieldsIf_load_mid (by rfl) 29 (.tmp 31) rfl g (off + p * 4) rfl (grCells y) _ (fun _ h => h.2) HUG.out rfl (info_gr)) hHeld ?_
              try simp only [Act.put, List.setIfInBounds_toArray, List.set_cons_zero, List.set_cons_succ]
              refine wpAnyH_take (i := 21) (oi := { dst := some 33, op := Op.load 29 (Operand.tmp 4), type := 29, pos := "locks.go:60", after := #[{ on := 15, ground := Ground.guard }], guard := some (15, false) }) rfl (by kernel_rfl) (by kernel_rfl) (by kernel_rfl) (fun _ _ _ h => h) (yieldsIf_load_mid (by rfl) 29 (.tmp 4) rfl B21 (0) rfl (grCells x) _ (fun _ h => h.1) HUG.out rfl (info_gr)) hHeld ?_
              try simp only [Act.put, List.setIfInBounds_toArray, List.set_cons_zero, List.set_cons_succ]
              refine wpAnyH_ready (rs := [22]) (by kernel_rfl) (by simp) ?_
              refine AllReadyH.cons (o := { dst := some 34, op := Op.call { callee := Callee.value (Operand.func 78), args := #[Operand.tmp 32, Operand.tmp 33], argTypes := #[29, 29] }, type := 4, pos := "locks.go:60", after := #[{ on := 20, ground := Ground.data }, { on := 21, ground := Ground.data }, { on := 15, ground := Ground.chain }, { on := 15, ground := Ground.guard }], guard := some (15, false) }) rfl (fun K hK => ?_) (AllReadyH.nil)
              go_simp
              go_wp2_with (go_at_call 78; refine (HCf.out _).mono ?_; rintro e w63 ⟨rfl, hb⟩)
              have HS63 : Hid (Hp w [.ob B21 29 (grCells x)] w63) := (HS62.out).calls hb
              refine hK.out _ _ (⟨(fun j v hv => by rw [Nat.zero_add]; exact (HS63.out).at 0 rfl j hv), (elem_rng (HRg.out _ (HS63.out).old) HYp.out)⟩) (fun hHeld => ?_)
              clear hK K hb
              try simp only [Act.put, List.setIfInBounds_toArray, List.set_cons_zero, List.set_cons_succ]
              refine wpAnyH_take (i := 23) (oi := { dst := some 35, op := Op.pick (Operand.tmp 27) (Operand.const (Value.bool true)) (Operand.tmp 34), type := 4, pos := "locks.go:60", after := #[{ on := 15, ground := Ground.data }, { on := 22, ground := Ground.data }, { on := 6, ground := Ground.guard }], guard := some (6, true) }) (v := ?q421v) rfl (by kernel_rfl) (by kernel_rfl) (by kernel_rfl) (fun _ _ _ h => h) (Or.inl ⟨by rfl, ?q421h⟩) hHeld ?q421r
              case q421h => (intro wq hSw; clear hSw; go_simp; try with_reducible rfl)
              try simp only [Act.put, List.setIfInBounds_toArray, List.set_cons_zero, List.set_cons_succ]
              refine wpAnyH_take (i := 24) (oi := { dst := some 36, op := Op.pick (Operand.tmp 18) (Operand.tmp 35) (Operand.const (Value.bool false)), type := 4, pos := "locks.go:60", after := #[{ on := 6, ground := Ground.data }, { on := 23, ground := Ground.data }, { on := 3, ground := Ground.guard }], guard := some (3, false) }) (v := ?q422v) rfl (by kernel_rfl) (by kernel_rfl) (by kernel_rfl) (fun _ _ _ h => h) (Or.inl ⟨by rfl, ?q422h⟩) hHeld ?q422r
              case q422h => (intro wq hSw; clear hSw; go_simp; try with_reducible rfl)
              try simp only [Act.put, List.setIfInBounds_toArray, List.set_cons_zero, List.set_cons_succ]
              refine wpAnyH_take (i := 25) (oi := { dst := some 37, op := Op.pick (Operand.tmp 15) (Operand.const (Value.bool true)) (Operand.tmp 36), type := 4, pos := "locks.go:60", after := #[{ on := 3, ground := Ground.data }, { on := 24, ground := Ground.data }], guard := none }) (v := ?q423v) rfl (by kernel_rfl) (by kernel_rfl) (by kernel_rfl) (fun _ _ _ h => h) (Or.inl ⟨by rfl, ?q423h⟩) hHeld ?q423r
              case q423h => (intro wq hSw; clear hSw; go_simp; try with_reducible rfl)
              try simp only [Act.put, List.setIfInBounds_toArray, List.set_cons_zero, List.set_cons_succ]
              refine wpAnyH_done (by kernel_rfl) ?_ _
              clear hHeld
              go_wp2_with fail
              go_ret
              exact ⟨by rw [HX.out]; rfl, (HS63.out).old⟩
            case false =>
              have HA : Hid (∀ z ∈ l.take i, ¬ Conf z x) := adj_free HH.out (last_take HIp.out HYp.out) HG.out (fun h => by have := hcf.2 h; cases this)
              clear hNy hcf
              refine wp_region_held_drew (S := fun w' => w'.rangeAt B21 0 (grCells x) ∧ w'.rangeAt g (off + p * 4) (grCells y)) (by kernel_rfl) (⟨(fun j v hv => by rw [Nat.zero_add]; exact ((HS21.out).drew).at 0 rfl j hv), (elem_rng (HRg.out _ ((HS21.out).drew).old) HYp.out)⟩) (fun hHeld => ?_)
              refine wpAnyH_take (i := 0) (oi := { dst := some 12, op := Op.load 29 (Operand.tmp 4), type := 29, pos := "locks.go:60", after := #[], guard := none }) rfl (by kernel_rfl) (by kernel_rfl) (by kernel_rfl) (fun _ _ _ h => h) (yieldsIf_load_mid (by rfl) 29 (.tmp 4) rfl B21 (0) rfl (grCells x) _ (fun _ h => h.1) HUG.out rfl (info_gr)) hHeld ?_
              try simp only [Act.put, List.setIfInBounds_toArray, List.set_cons_zero, List.set_cons_succ]
              refine wpAnyH_ready (rs := [1]) (by kernel_rfl) (by simp) ?_
              refine AllReadyH.cons (o := { dst := some 13, op := Op.call { callee := Callee.value (Operand.func 43), args := #[Operand.tmp 12], argTypes := #[29] }, type := 4, pos := "locks.go:60", after := #[{ on := 0, ground := Ground.data }], guard := none }) rfl (fun K hK => ?_) (AllReadyH.nil)
              go_simp
              go_wp2_with (go_at_call 43; refine (HGr.out _).mono ?_; rintro e w61 ⟨rfl, hb⟩)
              have HS61 : Hid (Hp w [.ob B21 29 (grCells x)] w61) := ((HS21.out).drew).calls hb
              refine hK.out _ _ (⟨(fun j v hv => by rw [Nat.zero_add]; exact (HS61.out).at 0 rfl j hv), (elem_rng (HRg.out _ (HS61.out).old) HYp.out)⟩) (fun hHeld => ?_)
              clear hK K hb
              try simp only [Act.put, List.setIfInBounds_toArray, List.set_cons_zero, List.set_cons_succ]
              refine wpAnyH_take (i := 2) (oi := { dst := some 14, op := Op.unOp UnOp.not 4 (Operand.tmp 13), type := 4, pos := "locks.go:60", after := #[{ on := 1, ground := Ground.data }], guard := none }) (v := .bool false) rfl (by kernel_rfl) (by kernel_rfl) (by kernel_rfl) (fun _ _ _ h => h) (Or.inl ⟨by rfl, ?q502h⟩) hHeld ?q502r
              case q502h => (intro wq hSw; clear hSw; go_simp; try with_reducible rfl)
              try simp only [Act.put, List.setIfInBounds_toArray, List.set_cons_zero, List.set_cons_succ]
              refine wpAnyH_take (i := 3) (oi := { dst := some 15, op := Op.move (Operand.tmp 14), type := 4, pos := "locks.go:60", after := #[{ on := 2, ground := Ground.data }, { on := 1, ground := Ground.chain }], guard := none }) (v := ?q503v) rfl (by kernel_rfl) (by kernel_rfl) (by kernel_rfl) (fun _ _ _ h => h) (Or.inl ⟨by rfl, ?q503h⟩) hHeld ?q503r
              case q503h => (intro wq hSw; clear hSw; go_simp; try with_reducible rfl)
              try simp only [Act.put, List.setIfInBounds_toArray, List.set_cons_zero, List.set_cons_succ]
              refine wpAnyH_take (i := 4) (oi := { dst := some 16, op := Op.move (Operand.tmp 3), type := 3, pos := "locks.go:60", after := #[{ on := 3, ground := Ground.guard }], guard := some (3, false) }) (v := ?q504v) rfl (by kernel_rfl) (by kernel_rfl) (by kernel_rfl) (fun _ _ _ h => h) (Or.inl ⟨by rfl, ?q504h⟩) hHeld ?q504r
              case q504h => (intro wq hSw; clear hSw; go_simp; try with_reducible rfl)
              try simp only [Act.put, List.setIfInBounds_toArray, List.set_cons_zero, List.set_cons_succ]
              refine wpAnyH_take (i := 5) (oi := { dst := some 17, op := Op.binOp BinOp.gtr 3 (Operand.tmp 16) (Operand.const (Value.int IntKind.i64 0)) 3, type := 4, pos := "locks.go:60", after := #[{ on := 4, ground := Ground.data }, { on := 3, ground := Ground.guard }], guard := some (3, false) }) (v := .bool true) rfl (by kernel_rfl) (by kernel_rfl) (by kernel_rfl) (fun _ _ _ h => h) (Or.inl ⟨by rfl, ?q505h⟩) hHeld ?q505r
              case q505h => (intro wq hSw; clear hSw; go_simp; try with_reducible rfl)
              try simp only [Act.put, List.setIfInBounds_toArray, List.set_cons_zero, List.set_cons_succ]
              refine wpAnyH_take (i := 6) (oi := { dst := some 18, op := Op.move (Operand.tmp 17), type := 4, pos := "locks.go:60", after := #[{ on := 5, ground := Ground.data }, { on := 3, ground := Ground.chain }, { on := 3, ground := Ground.guard }], guard := some (3, false) }) (v := ?q506v) rfl (by kernel_rfl) (by kernel_rfl) (by kernel_rfl) (fun _ _ _ h => h) (Or.inl ⟨by rfl, ?q506h⟩) hHeld ?q506r
              case q506h => (intro wq hSw; clear hSw; go_simp; try with_reducible rfl)
              try simp only [Act.put, List.setIfInBounds_toArray, List.set_cons_zero, List.set_cons_succ]
              refine wpAnyH_take (i := 7) (oi := { dst := some 19, op := Op.move (Operand.tmp 0), type := 23, pos := "locks.go:60", after := #[{ on := 6, ground := Ground.guard }], guard := some (6, true) }) (v := ?q507v) rfl (by kernel_rfl) (by kernel_rfl) (by kernel_rfl) (fun _ _ _ h => h) (Or.inl ⟨by rfl, ?q507h⟩) hHeld ?q507r
              case q507h => (intro wq hSw; clear hSw; go_simp; try with_reducible rfl)
              try simp only [Act.put, List.setIfInBounds_toArray, List.set_cons_zero, List.set_cons_succ]
              refine wpAnyH_take (i := 8) (oi := { dst := some 20, op := Op.move (Operand.tmp 3), type := 3, pos := "locks.go:60", after := #[{ on := 6, ground := Ground.guard }], guard := some (6, true) }) (v := ?q508v) rfl (by kernel_rfl) (by kernel_rfl) (by kernel_rfl) (fun _ _ _ h => h) (Or.inl ⟨by rfl, ?q508h⟩) hHeld ?q508r
              case q508h => (intro wq hSw; clear hSw; go_simp; try with_reducible rfl)
              try simp only [Act.put, List.setIfInBounds_toArray, List.set_cons_zero, List.set_cons_succ]
              refine wpAnyH_take (i := 9) (oi := { dst := some 21, op := Op.binOp BinOp.sub 3 (Operand.tmp 20) (Operand.const (Value.int IntKind.i64 1)) 3, type := 3, pos := "locks.go:60", after := #[{ on := 8, ground := Ground.data }, { on := 6, ground := Ground.guard }], guard := some (6, true) }) (v := ?q509v) rfl (by kernel_rfl) (by kernel_rfl) (by kernel_rfl) (fun _ _ _ h => h) (Or.inl ⟨by rfl, ?q509h⟩) hHeld ?q509r
              case q509h => (intro wq hSw; clear hSw; go_simp; try with_reducible rfl)
              try simp only [Act.put, List.setIfInBounds_toArray, List.set_cons_zero, List.set_cons_succ]
              refine wpAnyH_take (i := 10) (oi := { dst := some 22, op := Op.indexAddr 23 (Operand.tmp 19) (Operand.tmp 21), type := 0, pos := "locks.go:60", after := #[{ on := 7, ground := Ground.data }, { on := 9, ground := Ground.data }, { on := 6, ground := Ground.guard }], guard := some (6, true) }) (v := ?q510v) rfl (by kernel_rfl) (by kernel_rfl) (by kernel_rfl) (fun _ _ _ h => h) (Or.inl ⟨by rfl, ?q510h⟩) hHeld ?q510r
              case q510h => (intro wq hSw; clear hSw; go_simp; try with_reducible rfl)
              try simp only [Act.put, List.setIfInBounds_toArray, List.set_cons_zero, List.set_cons_succ]
              refine wpAnyH_take (i := 11) (oi := { dst := some 23, op := Op.load 29 (Operand.tmp 22), type := 29, pos := "locks.go:60", after := #[{ on := 10, ground := Ground.data }, { on := 6, ground := Ground.guard }], guard := some (6, true) }) rfl (by kernel_rfl) (by kernel_rfl) (by kernel_rfl) (fun _ _ _ h => h) (yieldsIf_load_mid (by rfl) 29 (.tmp 22) rfl g (off + p * 4) rfl (grCells y) _ (fun _ h => h.2) HUG.out rfl (info_gr)) hHeld ?_
              try simp only [Act.put, List.setIfInBounds_toArray, List.set_cons_zero, List.set_cons_succ]
              refine wpAnyH_take (i := 12) (oi := { dst := some 24, op := Op.load 29 (Operand.tmp 4), type := 29, pos := "locks.go:60", after := #[{ on := 6, ground := Ground.guard }], guard := some (6, true) }) rfl (by kernel_rfl) (by kernel_rfl) (by kernel_rfl) (fun _ _ _ h => h) (yieldsIf_load_mid (by rfl) 29 (.tmp 4) rfl B21 (0) rfl (grCells x) _ (fun _ h => h.1) HUG.out rfl (info_gr)) hHeld ?_
              try simp only [Act.put, List.setIfInBounds_toArray, List.set_cons_zero, List.set_cons_succ]
              refine wpAnyH_ready (rs := [13]) (by kernel_rfl) (by simp) ?_
              refine AllReadyH.cons (o := { dst := some 25, op := Op.call { callee := Callee.value (Operand.func 77), args := #[Operand.tmp 23, Operand.tmp 24], argTypes := #[29, 29] }, type := 3, pos := "locks.go:60", after := #[{ on := 11, ground := Ground.data }, { on := 12, ground := Ground.data }, { on := 6, ground := Ground.chain }, { on := 6, ground := Ground.guard }], guard := some (6, true) }) rfl (fun K hK => ?_) (AllReadyH.nil)
              go_simp
              go_wp2_with (go_at_call 77; refine (HOr.out _).mono ?_; rintro e w62 ⟨rfl, hb⟩)
              have HS62 : Hid (Hp w [.ob B21 29 (grCells x)] w62) := (HS61.out).calls hb
              refine hK.out _ _ (⟨(fun j v hv => by rw [Nat.zero_add]; exact (HS62.out).at 0 rfl j hv), (elem_rng (HRg.out _ (HS62.out).old) HYp.out)⟩) (fun hHeld => ?_)
              clear hK K hb
              try simp only [Act.put, List.setIfInBounds_toArray, List.set_cons_zero, List.set_cons_succ]
              refine wpAnyH_take (i := 14) (oi := { dst := some 26, op := Op.binOp BinOp.geq 3 (Operand.tmp 25) (Operand.const (Value.int IntKind.i64 0)) 3, type := 4, pos := "locks.go:60", after := #[{ on := 13, ground := Ground.data }, { on := 6, ground := Ground.guard }], guard := some (6, true) }) (v := .bool false) rfl (by kernel_rfl) (by kernel_rfl) (by kernel_rfl) (fun _ _ _ h => h) (Or.inl ⟨by rfl, ?q513h⟩) hHeld ?q513r
              case q513h => (intro wq hSw; clear hSw; go_simp; try with_reducible rfl)
              try simp only [Act.put, List.setIfInBounds_toArray, List.set_cons_zero, List.set_cons_succ]
              refine wpAnyH_take (i := 15) (oi := { dst := some 27, op := Op.move (Operand.tmp 26), type := 4, pos := "locks.go:60", after := #[{ on := 14, ground := Ground.data }, { on := 13, ground := Ground.chain }, { on := 6, ground := Ground.guard }], guard := some (6, true) }) (v := ?q514v) rfl (by kernel_rfl) (by kernel_rfl) (by kernel_rfl) (fun _ _ _ h => h) (Or.inl ⟨by rfl, ?q514h⟩) hHeld ?q514r
              case q514h => (intro wq hSw; clear hSw; go_simp; try with_reducible rfl)
              try simp only [Act.put, List.setIfInBounds_toArray, List.set_cons_zero, List.set_cons_succ]
              refine wpAnyH_take (i := 16) (oi := { dst := some 28, op := Op.move (Operand.tmp 0), type := 23, pos := "locks.go:60", after := #[{ on := 15, ground := Ground.guard }], guard := some (15, false) }) (v := ?q515v) rfl (by kernel_rfl) (by kernel_rfl) (by kernel_rfl) (fun _ _ _ h => h) (Or.inl ⟨by rfl, ?q515h⟩) hHeld ?q515r
              case q515h => (intro wq hSw; clear hSw; go_simp; try with_reducible rfl)
              try simp only [Act.put, List.setIfInBounds_toArray, List.set_cons_zero, List.set_cons_succ]
              refine wpAnyH_take (i := 17) (oi := { dst := some 29, op := Op.move (Operand.tmp 3), type := 3, pos := "locks.go:60", after := #[{ on := 15, ground := Ground.guard }], guard := some (15, false) }) (v := ?q516v) rfl (by kernel_rfl) (by kernel_rfl) (by kernel_rfl) (fun _ _ _ h => h) (Or.inl ⟨by rfl, ?q516h⟩) hHeld ?q516r
              case q516h => (intro wq hSw; clear hSw; go_simp; try with_reducible rfl)
              try simp only [Act.put, List.setIfInBounds_toArray, List.set_cons_zero, List.set_cons_succ]
              refine wpAnyH_take (i := 18) (oi := { dst := some 30, op := Op.binOp BinOp.sub 3 (Operand.tmp 29) (Operand.const (Value.int IntKind.i64 1)) 3, type := 3, pos := "locks.go:60", after := #[{ on := 17, ground := Ground.data }, { on := 15, ground := Ground.guard }], guard := some (15, false) }) (v := ?q517v) rfl (by kernel_rfl) (by kernel_rfl) (by kernel_rfl) (fun _ _ _ h => h) (Or.inl ⟨by rfl, ?q517h⟩) hHeld ?q517r
              case q517h => (intro wq hSw; clear hSw; go_simp; try with_reducible rfl)
              try simp only [Act.put, List.setIfInBounds_toArray, List.set_cons_zero, List.set_cons_succ]
              refine wpAnyH_take (i := 19) (oi := { dst := some 31, op := Op.indexAddr 23 (Operand.tmp 28) (Operand.tmp 30), type := 0, pos := "locks.go:60", after := #[{ on := 16, ground := Ground.data }, { on := 18, ground := Ground.data }, { on := 15, ground := Ground.guard }], guard := some (15, false) }) (v := ?q518v) rfl (by kernel_rfl) (by kernel_rfl) (by kernel_rfl) (fun _ _ _ h => h) (Or.inl ⟨by rfl, ?q518h⟩) hHeld ?q518r
              case q518h => (intro wq hSw; clear hSw; go_simp; try with_reducible rfl)
              try simp only [Act.put, List.setIfInBounds_toArray, List.set_cons_zero, List.set_cons_succ]
              refine wpAnyH_take (i := 20) (oi := { dst := some 32, op := Op.load 29 (Operand.tmp 31), type := 29, pos := "locks.go:60", after := #[{ on := 19, ground := Ground.data }, { on := 15, ground := Ground.guard }], guard := some (15, false) }) rfl (by kernel_rfl) (by kernel_rfl) (by kernel_rfl) (fun _ _ _ h => h) (yieldsIf_load_mid (by rfl) 29 (.tmp 31) rfl g (off + p * 4) rfl (grCells y) _ (fun _ h => h.2) HUG.out rfl (info_gr)) hHeld ?_
              try simp only [Act.put, List.setIfInBounds_toArray, List.set_cons_zero, List.set_cons_succ]
              refine wpAnyH_take (i := 21) (oi := { dst := some 33, op := Op.load 29 (Operand.tmp 4), type := 29, pos := "locks.go:60", after := #[{ on := 15, ground := Ground.guard }], guard := some (15, false) }) rfl (by kernel_rfl) (by kernel_rfl) (by kernel_rfl) (fun _ _ _ h => h) (yieldsIf_load_mid (by rfl) 29 (.tmp 4) rfl B21 (0) rfl (grCells x) _ (fun _ h => h.1) HUG.out rfl (info_gr)) hHeld ?_
              try simp only [Act.put, List.setIfInBounds_toArray, List.set_cons_zero, List.set_cons_succ]
              refine wpAnyH_ready (rs := [22]) (by kernel_rfl) (by simp) ?_
              refine AllReadyH.cons (o := { dst := some 34, op := Op.call { callee := Callee.value (Operand.func 78), args := #[Operand.tmp 32, Operand.tmp 33], argTypes := #[29, 29] }, type := 4, pos := "locks.go:60", after := #[{ on := 20, ground := Ground.data }, { on := 21, ground := Ground.data }, { on := 15, ground := Ground.chain }, { on := 15, ground := Ground.guard }], guard := some (15, false) }) rfl (fun K hK => ?_) (AllReadyH.nil)
              go_simp
              go_wp2_with (go_at_call 78; refine (HCf.out _).mono ?_; rintro e w63 ⟨rfl, hb⟩)
              have HS63 : Hid (Hp w [.ob B21 29 (grCells x)] w63) := (HS62.out).calls hb
              refine hK.out _ _ (⟨(fun j v hv => by rw [Nat.zero_add]; exact (HS63.out).at 0 rfl j hv), (elem_rng (HRg.out _ (HS63.out).old) HYp.out)⟩) (fun hHeld => ?_)
              clear hK K hb
              try simp only [Act.put, List.setIfInBounds_toArray, List.set_cons_zero, List.set_cons_succ]
              refine wpAnyH_take (i := 23) (oi := { dst := some 35, op := Op.pick (Operand.tmp 27) (Operand.const (Value.bool true)) (Operand.tmp 34), type := 4, pos := "locks.go:60", after := #[{ on := 15, ground := Ground.data }, { on := 22, ground := Ground.data }, { on := 6, ground := Ground.guard }], guard := some (6, true) }) (v := ?q521v) rfl (by kernel_rfl) (by kernel_rfl) (by kernel_rfl) (fun _ _ _ h => h) (Or.inl ⟨by rfl, ?q521h⟩) hHeld ?q521r
              case q521h => (intro wq hSw; clear hSw; go_simp; try with_reducible rfl)
              try simp only [Act.put, List.setIfInBounds_toArray, List.set_cons_zero, List.set_cons_succ]
              refine wpAnyH_take (i := 24) (oi := { dst := some 36, op := Op.pick (Operand.tmp 18) (Operand.tmp 35) (Operand.const (Value.bool false)), type := 4, pos := "locks.go:60", after := #[{ on := 6, ground := Ground.data }, { on := 23, ground := Ground.data }, { on := 3, ground := Ground.guard }], guard := some (3, false) }) (v := ?q522v) rfl (by kernel_rfl) (by kernel_rfl) (by kernel_rfl) (fun _ _ _ h => h) (Or.inl ⟨by rfl, ?q522h⟩) hHeld ?q522r
              case q522h => (intro wq hSw; clear hSw; go_simp; try with_reducible rfl)
              try simp only [Act.put, List.setIfInBounds_toArray, List.set_cons_zero, List.set_cons_succ]
              refine wpAnyH_take (i := 25) (oi := { dst := some 37, op := Op.pick (Operand.tmp 15) (Operand.const (Value.bool true)) (Operand.tmp 36), type := 4, pos := "locks.go:60", after := #[{ on := 3, ground := Ground.data }, { on := 24, ground := Ground.data }], guard := none }) (v := ?q523v) rfl (by kernel_rfl) (by kernel_rfl) (by kernel_rfl) (fun _ _ _ h => h) (Or.inl ⟨by rfl, ?q523h⟩) hHeld ?q523r
              case q523h => (intro wq hSw; clear hSw; go_simp; try with_reducible rfl)
              try simp only [Act.put, List.setIfInBounds_toArray, List.set_cons_zero, List.set_cons_succ]
              refine wpAnyH_done (by kernel_rfl) ?_ _
              clear hHeld
              go_wp2_with fail
              go_roundw
              case rel => exact ⟨i + 1, HLt.out, by go_num, by rw [lk_take_snoc HXi.out]; exact held_snoc HH.out HOk1.out HU.out HA.out, HS63.out.forget (L := [])⟩
              case measure => simp [intOf]; try (have := HLt.out; omega)
          · have HX := Lib.hid (hNx (fun h => ho (hneg.2 h)))
            have dov : decide (0 ≤ ov) = true := decide_eq_true (by omega)
            clear hNx hNy hneg hcf ho
            refine wp_region_held_drew (S := fun w' => w'.rangeAt B21 0 (grCells x) ∧ w'.rangeAt g (off + p * 4) (grCells y)) (by kernel_rfl) (⟨(fun j v hv => by rw [Nat.zero_add]; exact ((HS21.out).drew).at 0 rfl j hv), (elem_rng (HRg.out _ ((HS21.out).drew).old) HYp.out)⟩) (fun hHeld => ?_)
            refine wpAnyH_take (i := 0) (oi := { dst := some 12, op := Op.load 29 (Operand.tmp 4), type := 29, pos := "locks.go:60", after := #[], guard := none }) rfl (by kernel_rfl) (by kernel_rfl) (by kernel_rfl) (fun _ _ _ h => h) (yieldsIf_load_mid (by rfl) 29 (.tmp 4) rfl B21 (0) rfl (grCells x) _ (fun _ h => h.1) HUG.out rfl (info_gr)) hHeld ?_
            try simp only [Act.put, List.setIfInBounds_toArray, List.set_cons_zero, List.set_cons_succ]
            refine wpAnyH_ready (rs := [1]) (by kernel_rfl) (by simp) ?_
            refine AllReadyH.cons (o := { dst := some 13, op := Op.call { callee := Callee.value (Operand.func 43), args := #[Operand.tmp 12], argTypes := #[29] }, type := 4, pos := "locks.go:60", after := #[{ on := 0, ground := Ground.data }], guard := none }) rfl (fun K hK => ?_) (AllReadyH.nil)
            go_simp
            go_wp2_with (go_at_call 43; refine (HGr.out _).mono ?_; rintro e w61 ⟨rfl, hb⟩)
            have HS61 : Hid (Hp w [.ob B21 29 (grCells x)] w61) := ((HS21.out).drew).calls hb
            refine hK.out _ _ (⟨(fun j v hv => by rw [Nat.zero_add]; exact (HS61.out).at 0 rfl j hv), (elem_rng (HRg.out _ (HS61.out).old) HYp.out)⟩) (fun hHeld => ?_)
            clear hK K hb
            try simp only [Act.put, List.setIfInBounds_toArray, List.set_cons_zero, List.set_cons_succ]
            refine wpAnyH_take (i := 2) (oi := { dst := some 14, op := Op.unOp UnOp.not 4 (Operand.tmp 13), type := 4, pos := "locks.go:60", after := #[{ on := 1, ground := Ground.data }], guard := none }) (v := .bool false) rfl (by kernel_rfl) (by kernel_rfl) (by kernel_rfl) (fun _ _ _ h => h) (Or.inl ⟨by rfl, ?q302h⟩) hHeld ?q302r
            case q302h => (intro wq hSw; clear hSw; go_simp; try with_reducible rfl)
            try simp only [Act.put, List.setIfInBounds_toArray, List.set_cons_zero, List.set_cons_succ]
            refine wpAnyH_take (i := 3) (oi := { dst := some 15, op := Op.move (Operand.tmp 14), type := 4, pos := "locks.go:60", after := #[{ on := 2, ground := Ground.data }, { on := 1, ground := Ground.chain }], guard := none }) (v := ?q303v) rfl (by kernel_rfl) (by kernel_rfl) (by kernel_rfl) (fun _ _ _ h => h) (Or.inl ⟨by rfl, ?q303h⟩) hHeld ?q303r
            case q303h => (intro wq hSw; clear hSw; go_simp; try with_reducible rfl)
            try simp only [Act.put, List.setIfInBounds_toArray, List.set_cons_zero, List.set_cons_succ]
            refine wpAnyH_take (i := 4) (oi := { dst := some 16, op := Op.move (Operand.tmp 3), type := 3, pos := "locks.go:60", after := #[{ on := 3, ground := Ground.guard }], guard := some (3, false) }) (v := ?q304v) rfl (by kernel_rfl) (by kernel_rfl) (by kernel_rfl) (fun _ _ _ h => h) (Or.inl ⟨by rfl, ?q304h⟩) hHeld ?q304r
            case q304h => (intro wq hSw; clear hSw; go_simp; try with_reducible rfl)
            try simp only [Act.put, List.setIfInBounds_toArray, List.set_cons_zero, List.set_cons_succ]
            refine wpAnyH_take (i := 5) (oi := { dst := some 17, op := Op.binOp BinOp.gtr 3 (Operand.tmp 16) (Operand.const (Value.int IntKind.i64 0)) 3, type := 4, pos := "locks.go:60", after := #[{ on := 4, ground := Ground.data }, { on := 3, ground := Ground.guard }], guard := some (3, false) }) (v := .bool true) rfl (by kernel_rfl) (by kernel_rfl) (by kernel_rfl) (fun _ _ _ h => h) (Or.inl ⟨by rfl, ?q305h⟩) hHeld ?q305r
            case q305h => (intro wq hSw; clear hSw; go_simp; try with_reducible rfl)
            try simp only [Act.put, List.setIfInBounds_toArray, List.set_cons_zero, List.set_cons_succ]
            refine wpAnyH_take (i := 6) (oi := { dst := some 18, op := Op.move (Operand.tmp 17), type := 4, pos := "locks.go:60", after := #[{ on := 5, ground := Ground.data }, { on := 3, ground := Ground.chain }, { on := 3, ground := Ground.guard }], guard := some (3, false) }) (v := ?q306v) rfl (by kernel_rfl) (by kernel_rfl) (by kernel_rfl) (fun _ _ _ h => h) (Or.inl ⟨by rfl, ?q306h⟩) hHeld ?q306r
            case q306h => (intro wq hSw; clear hSw; go_simp; try with_reducible rfl)
            try simp only [Act.put, List.setIfInBounds_toArray, List.set_cons_zero, List.set_cons_succ]
            refine wpAnyH_take (i := 7) (oi := { dst := some 19, op := Op.move (Operand.tmp 0), type := 23, pos := "locks.go:60", after := #[{ on := 6, ground := Ground.guard }], guard := some (6, true) }) (v := ?q307v) rfl (by kernel_rfl) (by kernel_rfl) (by kernel_rfl) (fun _ _ _ h => h) (Or.inl ⟨by rfl, ?q307h⟩) hHeld ?q307r
            case q307h => (intro wq hSw; clear hSw; go_simp; try with_reducible rfl)
            try simp only [Act.put, List.setIfInBounds_toArray, List.set_cons_zero, List.set_cons_succ]
            refine wpAnyH_take (i := 8) (oi := { dst := some 20, op := Op.move (Operand.tmp 3), type := 3, pos := "locks.go:60", after := #[{ on := 6, ground := Ground.guard }], guard := some (6, true) }) (v := ?q308v) rfl (by kernel_rfl) (by kernel_rfl) (by kernel_rfl) (fun _ _ _ h => h) (Or.inl ⟨by rfl, ?q308h⟩) hHeld ?q308r
            case q308h => (intro wq hSw; clear hSw; go_simp; try with_reducible rfl)
            try simp only [Act.put, List.setIfInBounds_toArray, List.set_cons_zero, List.set_cons_succ]
            refine wpAnyH_take (i := 9) (oi := { dst := some 21, op := Op.binOp BinOp.sub 3 (Operand.tmp 20) (Operand.const (Value.int IntKind.i64 1)) 3, type := 3, pos := "locks.go:60", after := #[{ on := 8, ground := Ground.data }, { on := 6, ground := Ground.guard }], guard := some (6, true) }) (v := ?q309v) rfl (by kernel_rfl) (by kernel_rfl) (by kernel_rfl) (fun _ _ _ h => h) (Or.inl ⟨by rfl, ?q309h⟩) hHeld ?q309r
            case q309h => (intro wq hSw; clear hSw; go_simp; try with_reducible rfl)
            try simp only [Act.put, List.setIfInBounds_toArray, List.set_cons_zero, List.set_cons_succ]
            refine wpAnyH_take (i := 10) (oi := { dst := some 22, op := Op.indexAddr 23 (Operand.tmp 19) (Operand.tmp 21), type := 0, pos := "locks.go:60", after := #[{ on := 7, ground := Ground.data }, { on := 9, ground := Ground.data }, { on := 6, ground := Ground.guard }], guard := some (6, true) }) (v := ?q310v) rfl (by kernel_rfl) (by kernel_rfl) (by kernel_rfl) (fun _ _ _ h => h) (Or.inl ⟨by rfl, ?q310h⟩) hHeld ?q310r
            case q310h => (intro wq hSw; clear hSw; go_simp; try with_reducible rfl)
            try simp only [Act.put, List.setIfInBounds_toArray, List.set_cons_zero, List.set_cons_succ]
            refine wpAnyH_take (i := 11) (oi := { dst := some 23, op := Op.load 29 (Operand.tmp 22), type := 29, pos := "locks.go:60", after := #[{ on := 10, ground := Ground.data }, { on := 6, ground := Ground.guard }], guard := some (6, true) }) rfl (by kernel_rfl) (by kernel_rfl) (by kernel_rfl) (fun _ _ _ h => h) (yieldsIf_load_mid (by rfl) 29 (.tmp 22) rfl g (off + p * 4) rfl (grCells y) _ (fun _ h => h.2) HUG.out rfl (info_gr)) hHeld ?_
            try simp only [Act.put, List.setIfInBounds_toArray, List.set_cons_zero, List.set_cons_succ]
            refine wpAnyH_take (i := 12) (oi := { dst := some 24, op := Op.load 29 (Operand.tmp 4), type := 29, pos := "locks.go:60", after := #[{ on := 6, ground := Ground.guard }], guard := some (6, true) }) rfl (by kernel_rfl) (by kernel_rfl) (by kernel_rfl) (fun _ _ _ h => h) (yieldsIf_load_mid (by rfl) 29 (.tmp 4) rfl B21 (0) rfl (grCells x) _ (fun _ h => h.1) HUG.out rfl (info_gr)) hHeld ?_
            try simp only [Act.put, List.setIfInBounds_toArray, List.set_cons_zero, List.set_cons_succ]
            refine wpAnyH_ready (rs := [13]) (by kernel_rfl) (by simp) ?_
            refine AllReadyH.cons (o := { dst := some 25, op := Op.call { callee := Callee.value (Operand.func 77), args := #[Operand.tmp 23, Operand.tmp 24], argTypes := #[29, 29] }, type := 3, pos := "locks.go:60", after := #[{ on := 11, ground := Ground.data }, { on := 12, ground := Ground.data }, { on := 6, ground := Ground.chain }, { on := 6, ground := Ground.guard }], guard := some (6, true) }) rfl (fun K hK => ?_) (AllReadyH.nil)
            go_simp
            go_wp2_with (go_at_call 77; refine (HOr.out _).mono ?_; rintro e w62 ⟨rfl, hb⟩)
            have HS62 : Hid (Hp w [.ob B21 29 (grCells x)] w62) := (HS61.out).calls hb
            refine hK.out _ _ (⟨(fun j v hv => by rw [Nat.zero_add]; exact (HS62.out).at 0 rfl j hv), (elem_rng (HRg.out _ (HS62.out).old) HYp.out)⟩) (fun hHeld => ?_)
            clear hK K hb
            try simp only [Act.put, List.setIfInBounds_toArray, List.set_cons_zero, List.set_cons_succ]
            refine wpAnyH_take (i := 14) (oi := { dst := some 26, op := Op.binOp BinOp.geq 3 (Operand.tmp 25) (Operand.const (Value.int IntKind.i64 0)) 3, type := 4, pos := "locks.go:60", after := #[{ on := 13, ground := Ground.data }, { on := 6, ground := Ground.guard }], guard := some (6, true) }) (v := .bool true) rfl (by kernel_rfl) (by kernel_rfl) (by kernel_rfl) (fun _ _ _ h => h) (Or.inl ⟨by rfl, ?q313h⟩) hHeld ?q313r
            case q313h => (intro wq hSw; clear hSw; go_simp; try with_reducible rfl)
            try simp only [Act.put, List.setIfInBounds_toArray, List.set_cons_zero, List.set_cons_succ]
            refine wpAnyH_take (i := 15) (oi := { dst := some 27, op := Op.move (Operand.tmp 26), type := 4, pos := "locks.go:60", after := #[{ on := 14, ground := Ground.data }, { on := 13, ground := Ground.chain }, { on := 6, ground := Ground.guard }], guard := some (6, true) }) (v := ?q314v) rfl (by kernel_rfl) (by kernel_rfl) (by kernel_rfl) (fun _ _ _ h => h) (Or.inl ⟨by rfl, ?q314h⟩) hHeld ?q314r
            case q314h => (intro wq hSw; clear hSw; go_simp; try with_reducible rfl)
            try simp only [Act.put, List.setIfInBounds_toArray, List.set_cons_zero, List.set_cons_succ]
            refine wpAnyH_take (i := 16) (oi := { dst := some 28, op := Op.move (Operand.tmp 0), type := 23, pos := "locks.go:60", after := #[{ on := 15, ground := Ground.guard }], guard := some (15, false) }) (v := undef) rfl (by kernel_rfl) (by kernel_rfl) (by kernel_rfl) (fun _ _ _ h => h) (Or.inr ⟨by rfl, rfl⟩) hHeld ?_
            try simp only [Act.put, List.setIfInBounds_toArray, List.set_cons_zero, List.set_cons_succ]
            refine wpAnyH_take (i := 17) (oi := { dst := some 29, op := Op.move (Operand.tmp 3), type := 3, pos := "locks.go:60", after := #[{ on := 15, ground := Ground.guard }], guard := some (15, false) }) (v := undef) rfl (by kernel_rfl) (by kernel_rfl) (by kernel_rfl) (fun _ _ _ h => h) (Or.inr ⟨by rfl, rfl⟩) hHeld ?_
            try simp only [Act.put, List.setIfInBounds_toArray, List.set_cons_zero, List.set_cons_succ]
            refine wpAnyH_take (i := 18) (oi := { dst := some 30, op := Op.binOp BinOp.sub 3 (Operand.tmp 29) (Operand.const (Value.int IntKind.i64 1)) 3, type := 3, pos := "locks.go:60", after := #[{ on := 17, ground := Ground.data }, { on := 15, ground := Ground.guard }], guard := some (15, false) }) (v := undef) rfl (by kernel_rfl) (by kernel_rfl) (by kernel_rfl) (fun _ _ _ h => h) (Or.inr ⟨by rfl, rfl⟩) hHeld ?_
            try simp only [Act.put, List.setIfInBounds_toArray, List.set_cons_zero, List.set_cons_succ]
            refine wpAnyH_take (i := 19) (oi := { dst := some 31, op := Op.indexAddr 23 (Operand.tmp 28) (Operand.tmp 30), type := 0, pos := "locks.go:60", after := #[{ on := 16, ground := Ground.data }, { on := 18, ground := Ground.data }, { on := 15, ground := Ground.guard }], guard := some (15, false) }) (v := undef) rfl (by kernel_rfl) (by kernel_rfl) (by kernel_rfl) (fun _ _ _ h => h) (Or.inr ⟨by rfl, rfl⟩) hHeld ?_
            try simp only [Act.put, List.setIfInBounds_toArray, List.set_cons_zero, List.set_cons_succ]
            refine wpAnyH_take (i := 20) (oi := { dst := some 32, op := Op.load 29 (Operand.tmp 31), type := 29, pos := "locks.go:60", after := #[{ on := 19, ground := Ground.data }, { on := 15, ground := Ground.guard }], guard := some (15, false) }) (v := undef) rfl (by kernel_rfl) (by kernel_rfl) (by kernel_rfl) (fun _ _ _ h => h) (Or.inr ⟨by rfl, rfl⟩) hHeld ?_
            try simp only [Act.put, List.setIfInBounds_toArray, List.set_cons_zero, List.set_cons_succ]
            refine wpAnyH_take (i := 21) (oi := { dst := some 33, op := Op.load 29 (Operand.tmp 4), type := 29, pos := "locks.go:60", after := #[{ on := 15, ground := Ground.guard }], guard := some (15, false) }) (v := undef) rfl (by kernel_rfl) (by kernel_rfl) (by kernel_rfl) (fun _ _ _ h => h) (Or.inr ⟨by rfl, rfl⟩) hHeld ?_
            try simp only [Act.put, List.setIfInBounds_toArray, List.set_cons_zero, List.set_cons_succ]
            refine wpAnyH_ready (rs := [22]) (by kernel_rfl) (by simp) ?_
            refine AllReadyH.cons (o := { dst := some 34, op := Op.call { callee := Callee.value (Operand.func 78), args := #[Operand.tmp 32, Operand.tmp 33], argTypes := #[29, 29] }, type := 4, pos := "locks.go:60", after := #[{ on := 20, ground := Ground.data }, { on := 21, ground := Ground.data }, { on := 15, ground := Ground.chain }, { on := 15, ground := Ground.guard }], guard := some (15, false) }) rfl (fun K hK => ?_) (AllReadyH.nil)
            rw [if_neg (by exact Bool.false_ne_true)]
            have HS63 : Hid (Hp w [.ob B21 29 (grCells x)] w62) := HS62.out
            refine hK.out _ _ (⟨(fun j v hv => by rw [Nat.zero_add]; exact (HS63.out).at 0 rfl j hv), (elem_rng (HRg.out _ (HS63.out).old) HYp.out)⟩) (fun hHeld => ?_)
            clear hK K
            try simp only [Act.put, List.setIfInBounds_toArray, List.set_cons_zero, List.set_cons_succ]
            refine wpAnyH_take (i := 23) (oi := { dst := some 35, op := Op.pick (Operand.tmp 27) (Operand.const (Value.bool true)) (Operand.tmp 34), type := 4, pos := "locks.go:60", after := #[{ on := 15, ground := Ground.data }, { on := 22, ground := Ground.data }, { on := 6, ground := Ground.guard }], guard := some (6, true) }) (v := ?q321v) rfl (by kernel_rfl) (by kernel_rfl) (by kernel_rfl) (fun _ _ _ h => h) (Or.inl ⟨by rfl, ?q321h⟩) hHeld ?q321r
            case q321h => (intro wq hSw; clear hSw; go_simp; try with_reducible rfl)
            try simp only [Act.put, List.setIfInBounds_toArray, List.set_cons_zero, List.set_cons_succ]
            refine wpAnyH_take (i := 24) (oi := { dst := some 36, op := Op.pick (Operand.tmp 18) (Operand.tmp 35) (Operand.const (Value.bool false)), type := 4, pos := "locks.go:60", after := #[{ on := 6, ground := Ground.data }, { on := 23, ground := Ground.data }, { on := 3, ground := Ground.guard }], guard := some (3, false) }) (v := ?q322v) rfl (by kernel_rfl) (by kernel_rfl) (by kernel_rfl) (fun _ _ _ h => h) (Or.inl ⟨by rfl, ?q322h⟩) hHeld ?q322r
            case q322h => (intro wq hSw; clear hSw; go_simp; try with_reducible rfl)
            try simp only [Act.put, List.setIfInBounds_toArray, List.set_cons_zero, List.set_cons_succ]
            refine wpAnyH_take (i := 25) (oi := { dst := some 37, op := Op.pick (Operand.tmp 15) (Operand.const (Value.bool true)) (Operand.tmp 36), type := 4, pos := "locks.go:60", after := #[{ on := 3, ground := Ground.data }, { on := 24, ground := Ground.data }], guard := none }) (v := ?q323v) rfl (by kernel_rfl) (by kernel_rfl) (by kernel_rfl) (fun _ _ _ h => h) (Or.inl ⟨by rfl, ?q323h⟩) hHeld ?q323r
            case q323h => (intro wq hSw; clear hSw; go_simp; try with_reducible rfl)
            try simp only [Act.put, List.setIfInBounds_toArray, List.set_cons_zero, List.set_cons_succ]
            refine wpAnyH_done (by kernel_rfl) ?_ _
            clear hHeld
            go_wp2_with fail
            go_ret
            exact ⟨by rw [HX.out]; rfl, (HS63.out).old⟩
        · obtain rfl : i = 0 := by omega
          have HU : Hid (∀ z, (l.take 0).getLast? = some z → GLt z x) := fun z hz => by simp at hz
          have HA : Hid (∀ z ∈ l.take 0, ¬ Conf z x) := fun z hz => by simp at hz
          have dp : decide ((0 : Int) < ((0 : Nat) : Int)) = false := rfl
          clear hi1
          refine wp_region_held_drew (S := fun w' => w'.rangeAt B21 0 (grCells x)) (by kernel_rfl) ((fun j v hv => by rw [Nat.zero_add]; exact ((HS21.out).drew).at 0 rfl j hv)) (fun hHeld => ?_)
          refine wpAnyH_take (i := 0) (oi := { dst := some 12, op := Op.load 29 (Operand.tmp 4), type := 29, pos := "locks.go:60", after := #[], guard := none }) rfl (by kernel_rfl) (by kernel_rfl) (by kernel_rfl) (fun _ _ _ h => h) (yieldsIf_load_mid (by rfl) 29 (.tmp 4) rfl B21 (0) rfl (grCells x) _ (fun _ h => h) HUG.out rfl (info_gr)) hHeld ?_
          try simp only [Act.put, List.setIfInBounds_toArray, List.set_cons_zero, List.set_cons_succ]
          refine wpAnyH_ready (rs := [1]) (by kernel_rfl) (by simp) ?_
          refine AllReadyH.cons (o := { dst := some 13, op := Op.call { callee := Callee.value (Operand.func 43), args := #[Operand.tmp 12], argTypes := #[29] }, type := 4, pos := "locks.go:60", after := #[{ on := 0, ground := Ground.data }], guard := none }) rfl (fun K hK => ?_) (AllReadyH.nil)
          go_simp
          go_wp2_with (go_at_call 43; refine (HGr.out _).mono ?_; rintro e w61 ⟨rfl, hb⟩)
          have HS61 : Hid (Hp w [.ob B21 29 (grCells x)] w61) := ((HS21.out).drew).calls hb
          refine hK.out _ _ ((fun j v hv => by rw [Nat.zero_add]; exact (HS61.out).at 0 rfl j hv)) (fun hHeld => ?_)
          clear hK K hb
          try simp only [Act.put, List.setIfInBounds_toArray, List.set_cons_zero, List.set_cons_succ]
          refine wpAnyH_take (i := 2) (oi := { dst := some 14, op := Op.unOp UnOp.not 4 (Operand.tmp 13), type := 4, pos := "locks.go:60", after := #[{ on := 1, ground := Ground.data }], guard := none }) (v := .bool false) rfl (by kernel_rfl) (by kernel_rfl) (by kernel_rfl) (fun _ _ _ h => h) (Or.inl ⟨by rfl, ?q202h⟩) hHeld ?q202r
          case q202h => (intro wq hSw; clear hSw; go_simp; try with_reducible rfl)
          try simp only [Act.put, List.setIfInBounds_toArray, List.set_cons_zero, List.set_cons_succ]
          refine wpAnyH_take (i := 3) (oi := { dst := some 15, op := Op.move (Operand.tmp 14), type := 4, pos := "locks.go:60", after := #[{ on := 2, ground := Ground.data }, { on := 1, ground := Ground.chain }], guard := none }) (v := ?q203v) rfl (by kernel_rfl) (by kernel_rfl) (by kernel_rfl) (fun _ _ _ h => h) (Or.inl ⟨by rfl, ?q203h⟩) hHeld ?q203r
          case q203h => (intro wq hSw; clear hSw; go_simp; try with_reducible rfl)
          try simp only [Act.put, List.setIfInBounds_toArray, List.set_cons_zero, List.set_cons_succ]
          refine wpAnyH_take (i := 4) (oi := { dst := some 16, op := Op.move (Operand.tmp 3), type := 3, pos := "locks.go:60", after := #[{ on := 3, ground := Ground.guard }], guard := some (3, false) }) (v := ?q204v) rfl (by kernel_rfl) (by kernel_rfl) (by kernel_rfl) (fun _ _ _ h => h) (Or.inl ⟨by rfl, ?q204h⟩) hHeld ?q204r
          case q204h => (intro wq hSw; clear hSw; go_simp; try with_reducible rfl)
          try simp only [Act.put, List.setIfInBounds_toArray, List.set_cons_zero, List.set_cons_succ]
          refine wpAnyH_take (i := 5) (oi := { dst := some 17, op := Op.binOp BinOp.gtr 3 (Operand.tmp 16) (Operand.const (Value.int IntKind.i64 0)) 3, type := 4, pos := "locks.go:60", after := #[{ on := 4, ground := Ground.data }, { on := 3, ground := Ground.guard }], guard := some (3, false) }) (v := .bool false) rfl (by kernel_rfl) (by kernel_rfl) (by kernel_rfl) (fun _ _ _ h => h) (Or.inl ⟨by rfl, ?q205h⟩) hHeld ?q205r
          case q205h => (intro wq hSw; clear hSw; go_simp; try with_reducible rfl)
          try simp only [Act.put, List.setIfInBounds_toArray, List.set_cons_zero, List.set_cons_succ]
          refine wpAnyH_take (i := 6) (oi := { dst := some 18, op := Op.move (Operand.tmp 17), type := 4, pos := "locks.go:60", after := #[{ on := 5, ground := Ground.data }, { on := 3, ground := Ground.chain }, { on := 3, ground := Ground.guard }], guard := some (3, false) }) (v := ?q206v) rfl (by kernel_rfl) (by kernel_rfl) (by kernel_rfl) (fun _ _ _ h => h) (Or.inl ⟨by rfl, ?q206h⟩) hHeld ?q206r
          case q206h => (intro wq hSw; clear hSw; go_simp; try with_reducible rfl)
          try simp only [Act.put, List.setIfInBounds_toArray, List.set_cons_zero, List.set_cons_succ]
          refine wpAnyH_take (i := 7) (oi := { dst := some 19, op := Op.move (Operand.tmp 0), type := 23, pos := "locks.go:60", after := #[{ on := 6, ground := Ground.guard }], guard := some (6, true) }) (v := undef) rfl (by kernel_rfl) (by kernel_rfl) (by kernel_rfl) (fun _ _ _ h => h) (Or.inr ⟨by rfl, rfl⟩) hHeld ?_
          try simp only [Act.put, List.setIfInBounds_toArray, List.set_cons_zero, List.set_cons_succ]
          refine wpAnyH_take (i := 8) (oi := { dst := some 20, op := Op.move (Operand.tmp 3), type := 3, pos := "locks.go:60", after := #[{ on := 6, ground := Ground.guard }], guard := some (6, true) }) (v := undef) rfl (by kernel_rfl) (by kernel_rfl) (by kernel_rfl) (fun _ _ _ h => h) (Or.inr ⟨by rfl, rfl⟩) hHeld ?_
          try simp only [Act.put, List.setIfInBounds_toArray, List.set_cons_zero, List.set_cons_succ]
          refine wpAnyH_take (i := 9) (oi := { dst := some 21, op := Op.binOp BinOp.sub 3 (Operand.tmp 20) (Operand.const (Value.int IntKind.i64 1)) 3, type := 3, pos := "locks.go:60", after := #[{ on := 8, ground := Ground.data }, { on := 6, ground := Ground.guard }], guard := some (6, true) }) (v := undef) rfl (by kernel_rfl) (by kernel_rfl) (by kernel_rfl) (fun _ _ _ h => h) (Or.inr ⟨by rfl, rfl⟩) hHeld ?_
          try simp only [Act.put, List.setIfInBounds_toArray, List.set_cons_zero, List.set_cons_succ]
          refine wpAnyH_take (i := 10) (oi := { dst := some 22, op := Op.indexAddr 23 (Operand.tmp 19) (Operand.tmp 21), type := 0, pos := "locks.go:60", after := #[{ on := 7, ground := Ground.data }, { on := 9, ground := Ground.data }, { on := 6, ground := Ground.guard }], guard := some (6, true) }) (v := undef) rfl (by kernel_rfl) (by kernel_rfl) (by kernel_rfl) (fun _ _ _ h => h) (Or.inr ⟨by rfl, rfl⟩) hHeld ?_
          try simp only [Act.put, List.setIfInBounds_toArray, List.set_cons_zero, List.set_cons_succ]
          refine wpAnyH_take (i := 11) (oi := { dst := some 23, op := Op.load 29 (Operand.tmp 22), type := 29, pos := "locks.go:60", after := #[{ on := 10, ground := Ground.data }, { on := 6, ground := Ground.guard }], guard := some (6, true) }) (v := undef) rfl (by kernel_rfl) (by kernel_rfl) (by kernel_rfl) (fun _ _ _ h => h) (Or.inr ⟨by rfl, rfl⟩) hHeld ?_
          try simp only [Act.put, List.setIfInBounds_toArray, List.set_cons_zero, List.set_cons_succ]
          refine wpAnyH_take (i := 12) (oi := { dst := some 24, op := Op.load 29 (Operand.tmp 4), type := 29, pos := "locks.go:60", after := #[{ on := 6, ground := Ground.guard }], guard := some (6, true) }) (v := undef) rfl (by kernel_rfl) (by kernel_rfl) (by kernel_rfl) (fun _ _ _ h => h) (Or.inr ⟨by rfl, rfl⟩) hHeld ?_
          try simp only [Act.put, List.setIfInBounds_toArray, List.set_cons_zero, List.set_cons_succ]
          refine wpAnyH_ready (rs := [13]) (by kernel_rfl) (by simp) ?_
          refine AllReadyH.cons (o := { dst := some 25, op := Op.call { callee := Callee.value (Operand.func 77), args := #[Operand.tmp 23, Operand.tmp 24], argTypes := #[29, 29] }, type := 3, pos := "locks.go:60", after := #[{ on := 11, ground := Ground.data }, { on := 12, ground := Ground.data }, { on := 6, ground := Ground.chain }, { on := 6, ground := Ground.guard }], guard := some (6, true) }) rfl (fun K hK => ?_) (AllReadyH.nil)
          rw [if_neg (by exact Bool.false_ne_true)]
          have HS62 : Hid (Hp w [.ob B21 29 (grCells x)] w61) := HS61.out
          refine hK.out _ _ ((fun j v hv => by rw [Nat.zero_add]; exact (HS62.out).at 0 rfl j hv)) (fun hHeld => ?_)
          clear hK K
          try simp only [Act.put, List.setIfInBounds_toArray, List.set_cons_zero, List.set_cons_succ]
          refine wpAnyH_take (i := 14) (oi := { dst := some 26, op := Op.binOp BinOp.geq 3 (Operand.tmp 25) (Operand.const (Value.int IntKind.i64 0)) 3, type := 4, pos := "locks.go:60", after := #[{ on := 13, ground := Ground.data }, { on := 6, ground := Ground.guard }], guard := some (6, true) }) (v := undef) rfl (by kernel_rfl) (by kernel_rfl) (by kernel_rfl) (fun _ _ _ h => h) (Or.inr ⟨by rfl, rfl⟩) hHeld ?_
          try simp only [Act.put, List.setIfInBounds_toArray, List.set_cons_zero, List.set_cons_succ]
          refine wpAnyH_take (i := 15) (oi := { dst := some 27, op := Op.move (Operand.tmp 26), type := 4, pos := "locks.go:60", after := #[{ on := 14, ground := Ground.data }, { on := 13, ground := Ground.chain }, { on := 6, ground := Ground.guard }], guard := some (6, true) }) (v := undef) rfl (by kernel_rfl) (by kernel_rfl) (by kernel_rfl) (fun _ _ _ h => h) (Or.inr ⟨by rfl, rfl⟩) hHeld ?_
          try simp only [Act.put, List.setIfInBounds_toArray, List.set_cons_zero, List.set_cons_succ]
          refine wpAnyH_take (i := 16) (oi := { dst := some 28, op := Op.move (Operand.tmp 0), type := 23, pos := "locks.go:60", after := #[{ on := 15, ground := Ground.guard }], guard := some (15, false) }) (v := undef) rfl (by kernel_rfl) (by kernel_rfl) (by kernel_rfl) (fun _ _ _ h => h) (Or.inr ⟨by rfl, rfl⟩) hHeld ?_
          try simp only [Act.put, List.setIfInBounds_toArray, List.set_cons_zero, List.set_cons_succ]
          refine wpAnyH_take (i := 17) (oi := { dst := some 29, op := Op.move (Operand.tmp 3), type := 3, pos := "locks.go:60", after := #[{ on := 15, ground := Ground.guard }], guard := some (15, false) }) (v := undef) rfl (by kernel_rfl) (by kernel_rfl) (by kernel_rfl) (fun _ _ _ h => h) (Or.inr ⟨by rfl, rfl⟩) hHeld ?_
          try simp only [Act.put, List.setIfInBounds_toArray, List.set_cons_zero, List.set_cons_succ]
          refine wpAnyH_take (i := 18) (oi := { dst := some 30, op := Op.binOp BinOp.sub 3 (Operand.tmp 29) (Operand.const (Value.int IntKind.i64 1)) 3, type := 3, pos := "locks.go:60", after := #[{ on := 17, ground := Ground.data }, { on := 15, ground := Ground.guard }], guard := some (15, false) }) (v := undef) rfl (by kernel_rfl) (by kernel_rfl) (by kernel_rfl) (fun _ _ _ h => h) (Or.inr ⟨by rfl, rfl⟩) hHeld ?_
          try simp only [Act.put, List.setIfInBounds_toArray, List.set_cons_zero, List.set_cons_succ]
          refine wpAnyH_take (i := 19) (oi := { dst := some 31, op := Op.indexAddr 23 (Operand.tmp 28) (Operand.tmp 30), type := 0, pos := "locks.go:60", after := #[{ on := 16, ground := Ground.data }, { on := 18, ground := Ground.data }, { on := 15, ground := Ground.guard }], guard := some (15, false) }) (v := undef) rfl (by kernel_rfl) (by kernel_rfl) (by kernel_rfl) (fun _ _ _ h => h) (Or.inr ⟨by rfl, rfl⟩) hHeld ?_
          try simp only [Act.put, List.setIfInBounds_toArray, List.set_cons_zero, List.set_cons_succ]
          refine wpAnyH_take (i := 20) (oi := { dst := some 32, op := Op.load 29 (Operand.tmp 31), type := 29, pos := "locks.go:60", after := #[{ on := 19, ground := Ground.data }, { on := 15, ground := Ground.guard }], guard := some (15, false) }) (v := undef) rfl (by kernel_rfl) (by kernel_rfl) (by kernel_rfl) (fun _ _ _ h => h) (Or.inr ⟨by rfl, rfl⟩) hHeld ?_
          try simp only [Act.put, List.setIfInBounds_toArray, List.set_cons_zero, List.set_cons_succ]
          refine wpAnyH_take (i := 21) (oi := { dst := some 33, op := Op.load 29 (Operand.tmp 4), type := 29, pos := "locks.go:60", after := #[{ on := 15, ground := Ground.guard }], guard := some (15, false) }) (v := undef) rfl (by kernel_rfl) (by kernel_rfl) (by kernel_rfl) (fun _ _ _ h => h) (Or.inr ⟨by rfl, rfl⟩) hHeld ?_
          try simp only [Act.put, List.setIfInBounds_toArray, List.set_cons_zero, List.set_cons_succ]
          refine wpAnyH_ready (rs := [22]) (by kernel_rfl) (by simp) ?_
          refine AllReadyH.cons (o := { dst := some 34, op := Op.call { callee := Callee.value (Operand.func 78), args := #[Operand.tmp 32, Operand.tmp 33], argTypes := #[29, 29] }, type := 4, pos := "locks.go:60", after := #[{ on := 20, ground := Ground.data }, { on := 21, ground := Ground.data }, { on := 15, ground := Ground.chain }, { on := 15, ground := Ground.guard }], guard := some (15, false) }) rfl (fun K hK => ?_) (AllReadyH.nil)
          rw [if_neg (by exact Bool.false_ne_true)]
          have HS63 : Hid (Hp w [.ob B21 29 (grCells x)] w61) := HS62.out
          refine hK.out _ _ ((fun j v hv => by rw [Nat.zero_add]; exact (HS63.out).at 0 rfl j hv)) (fun hHeld => ?_)
          clear hK K
          try simp only [Act.put, List.setIfInBounds_toArray, List.set_cons_zero, List.set_cons_succ]
          refine wpAnyH_take (i := 23) (oi := { dst := some 35, op := Op.pick (Operand.tmp 27) (Operand.const (Value.bool true)) (Operand.tmp 34), type := 4, pos := "locks.go:60", after := #[{ on := 15, ground := Ground.data }, { on := 22, ground := Ground.data }, { on := 6, ground := Ground.guard }], guard := some (6, true) }) (v := undef) rfl (by kernel_rfl) (by kernel_rfl) (by kernel_rfl) (fun _ _ _ h => h) (Or.inr ⟨by rfl, rfl⟩) hHeld ?_
          try simp only [Act.put, List.setIfInBounds_toArray, List.set_cons_zero, List.set_cons_succ]
          refine wpAnyH_take (i := 24) (oi := { dst := some 36, op := Op.pick (Operand.tmp 18) (Operand.tmp 35) (Operand.const (Value.bool false)), type := 4, pos := "locks.go:60", after := #[{ on := 6, ground := Ground.data }, { on := 23, ground := Ground.data }, { on := 3, ground := Ground.guard }], guard := some (3, false) }) (v := ?q222v) rfl (by kernel_rfl) (by kernel_rfl) (by kernel_rfl) (fun _ _ _ h => h) (Or.inl ⟨by rfl, ?q222h⟩) hHeld ?q222r
          case q222h => (intro wq hSw; clear hSw; go_simp; try with_reducible rfl)
          try simp only [Act.put, List.setIfInBounds_toArray, List.set_cons_zero, List.set_cons_succ]
          refine wpAnyH_take (i := 25) (oi := { dst := some 37, op := Op.pick (Operand.tmp 15) (Operand.const (Value.bool true)) (Operand.tmp 36), type := 4, pos := "locks.go:60", after := #[{ on := 3, ground := Ground.data }, { on := 24, ground := Ground.data }], guard := none }) (v := ?q223v) rfl (by kernel_rfl) (by kernel_rfl) (by kernel_rfl) (fun _ _ _ h => h) (Or.inl ⟨by rfl, ?q223h⟩) hHeld ?q223r
          case q223h => (intro wq hSw; clear hSw; go_simp; try with_reducible rfl)
          try simp only [Act.put, List.setIfInBounds_toArray, List.set_cons_zero, List.set_cons_succ]
          refine wpAnyH_done (by kernel_rfl) ?_ _
          clear hHeld
          go_wp2_with fail
          go_roundw
          case rel => exact ⟨0 + 1, HLt.out, by go_num, by rw [lk_take_snoc HXi.out]; exact held_snoc HH.out HOk1.out HU.out HA.out, HS63.out.forget (L := [])⟩
          case measure => simp [intOf]; try (have := HLt.out; omega)
    · obtain rfl : i = l.length := by omega
      have HX := Lib.hid (HYes.out (by have := HH.out; rwa [List.take_length] at this))
      clear hlt hi HH
      go_wp2_with fail
      go_ret
      exact ⟨by rw [HX.out]; rfl, HY.out.old⟩
end Go.Proofs.Ytooaldglgkjjgaa
/- a set of numbers in a map that the walk has made: which numbers it has -/
namespace Go.Proofs.Ytooaldglgkjjgaa
open Go.RowKit
open Go.Maps (Keyed)
set_option maxRecDepth 20000

theorem lawI : Keyed Try.prog 3 := Maps.int_keyed Try.underlying3
theorem zeroB (w : World) : (zeroValue 4).run Try.prog w = .ok (.bool false) w := by kernel_rfl
theorem run_makeSet (n : Int) (w : World) : (Instr.makeMap 63 (some (.int .i64 n))).run Try.prog w = .ok (.map (some w.heap.size)) (w.alloc (.map #[] 0)) := by
  simp [Instr.makeMap, run_underlying Try.underlying63, asInt, asIntOf]
def SeenM (W : World) (b n : Nat) (l : List Int) : Prop :=
  ∃ D : DataW Unit, W.ownsMap Try.prog 3 (plainElem Try.prog 4) b n D ∧ ∀ x, (Lit.int .i64 x).wf = true → D.atKey (.int .i64 x) (.lit (.bool false)) = .lit (.bool (decide (x ∈ l)))
theorem SeenM.made (w : World) : SeenM (w.alloc (.map #[] 0)) w.heap.size 0 [] := ⟨_, World.ownsMap_made w _ _ _, fun x _ => by
  rw [WideAt.atKey_none _ (by simp)]; simp⟩
theorem SeenM.kept {w w' : World} {b n : Nat} {l : List Int} {row : Option Nat} (h : SeenM w b n l) (hg : w.grownBy w' row) (hne : some b ≠ row) : SeenM w' b n l := by
  obtain ⟨D, h1, h2⟩ := h
  exact ⟨D, h1.kept hg hne, h2⟩
theorem SeenM.lt {w : World} {b n : Nat} {l : List Int} (h : SeenM w b n l) : b < w.heap.size := by
  obtain ⟨D, h1, _⟩ := h
  exact h1.lt
theorem SeenM.below {w w' : World} {b n : Nat} {l : List Int} (h : SeenM w b n l) (hb : Below w.heap.size w w') : SeenM w' b n l := h.kept (row := none) ⟨hb.os, hb.tape, hb.output, hb.size, fun k hk _ => hb.block k hk⟩ (by simp)
theorem seen_look {w : World} {b n : Nat} {l : List Int} {x : Int} {c : Bool} (h : SeenM w b n l) (hx : (Lit.int .i64 x).wf = true) (hc : decide (x ∈ l) = c) : Sem.run Try.prog (Instr.lookup 63 (.map (some b)) (.int .i64 x) false) w = .ok (.bool c) w := by
  obtain ⟨D, h1, h2⟩ := h
  obtain ⟨v, ps, hr, hv⟩ := h1.lookup lawI Try.underlying63 (zeroB w) (plainElem_bool Try.underlying4 false) (Maps.keyOf_int_mk Try.underlying3 hx)
  rw [h2 x hx, hc] at hv
  have hu := Try.underlying4
  unfold plainElem at hv
  rw [hu] at hv
  cases v <;> simp at hv
  rw [hr, hv.1]
theorem seen_store {w : World} {b n : Nat} {l : List Int} {x : Int} (h : SeenM w b n l) (hn : n < maxLen) (hx : (Lit.int .i64 x).wf = true) : ∃ w', (Instr.mapUpdate 63 (.map (some b)) (.int .i64 x) (.bool true)).run Try.prog w = .ok () w' ∧ SeenM w' b (n + 1) (l ++ [x]) ∧ w.grownBy w' (some b) := by
  obtain ⟨D, h1, h2⟩ := h
  obtain ⟨w', hr, ho, hg⟩ := h1.update lawI Try.underlying63 hn (Maps.keyOf_int_mk Try.underlying3 hx) (plainElem_bool Try.underlying4 true)
  refine ⟨w', hr, ⟨_, ho, fun y hy => ?_⟩, hg⟩
  by_cases e : y = x
  · subst e
    rw [Maps.atKey_put_same h1.isMap (by simp [WideAt.IsKeyLit])]
    simp
  · rw [Maps.atKey_put_other (by intro h; exact e (by injection h)), h2 y hy]
    simp [e]
end Go.Proofs.Ytooaldglgkjjgaa
/- the program's validWaiting (locks) -/
namespace Go.Proofs.Ytooaldglgkjjgaa
open Go.RowKit
set_option maxRecDepth 20000
set_option linter.unusedSimpArgs false
set_option linter.unusedVariables false

noncomputable def waitB (h l : List Gr) : Bool := @decide (WaitOk h l) (Classical.propDecidable _)
theorem waitB_iff {h l : List Gr} : waitB h l = true ↔ WaitOk h l := @decide_eq_true_iff _ (Classical.propDecidable _)
theorem waitB_no {h l : List Gr} (k : ¬ WaitOk h l) : waitB h l = false := by
  cases e : waitB h l with
  | false => rfl
  | true => exact absurd (waitB_iff.1 e) k
theorem w_grant {h l : List Gr} {i : Nat} {x : Gr} (hx : l[i]? = some x) (k : grOkB x = false) : waitB h l = false := waitB_no fun q => by
  have := grOkB_iff.2 (q.ok x (List.mem_of_getElem? hx)).1; rw [k] at this; cases this
theorem w_mode {h l : List Gr} {i : Nat} {x : Gr} (hx : l[i]? = some x) (k : x.mode ≤ modeR h x.tx x.page x.slot) : waitB h l = false := waitB_no fun q => by
  have h2 : modeR h x.tx x.page x.slot < x.mode := (q.ok x (List.mem_of_getElem? hx)).2
  omega
theorem w_two {h l : List Gr} {i : Nat} {x : Gr} (hx : l[i]? = some x) (k : x.tx ∈ (l.take i).map Gr.tx) : waitB h l = false := waitB_no fun q => by
  obtain ⟨y, hy, he⟩ := List.mem_map.1 k
  obtain ⟨p, hp, rfl⟩ := List.mem_take_iff_getElem.1 hy
  obtain ⟨hi, rfl⟩ := List.getElem?_eq_some_iff.1 hx
  exact List.pairwise_iff_getElem.1 q.one p i (by omega) hi (by omega) he
theorem wpList_store_seen {ops : Array Oper} {rest : List Oper} {a : Act} {w : World} {Q : Exit → Act → World → Prop} {ty : TypeId} {pos : String} {aft : Array Edge} (m x : Operand) {b n : Nat} {l : List Int} {y : Int} (hs : SeenM w b n l) (hn : n < maxLen) (hy : (Lit.int .i64 y).wf = true)
    (hm : a.eval m = .map (some b)) (hx : a.eval x = .int .i64 y) (hk : ∀ w', SeenM w' b (n + 1) (l ++ [y]) → w.grownBy w' (some b) → wpList Try.prog ops Q rest a w') :
    wpList Try.prog ops Q ({ dst := none, op := .mapUpdate 63 m x (.const (.bool true)), type := ty, pos := pos, after := aft, guard := none } :: rest) a w := by
  refine wpList_plain rfl fun K' hK' => ?_
  obtain ⟨w', hrun, r1, r2⟩ := seen_store hs hn hy
  have hc : a.eval (.const (.bool true)) = .bool true := rfl
  unfold Oper.wp
  simp [execOp, hm, hx, hc, hrun, Result.andThen]
  exact hK' _ _ (hk w' r1 r2)
def BelW (w W : World) : Prop := Below w.heap.size w W
/-- how the loop stands before its round i -/
structure WtRel (w : World) (cs : List Value) (l : List Gr) (i : Nat) (W : World) : Prop where
  old : Below w.heap.size w W
  box : W.heap[w.heap.size]? = some (.cells cs.toArray 25 (0, 0))
  seen : SeenM W (w.heap.size + 1) i ((l.take i).map Gr.tx)
theorem WtRel.next {w W V U : World} {cs : List Value} {l : List Gr} {i : Nat} {x : Gr} (h : WtRel w cs l i W) (hx : l[i]? = some x) (hb : Below W.heap.size W V) (hs : SeenM U (w.heap.size + 1) (i + 1) ((l.take i).map Gr.tx ++ [x.tx])) (hg : V.grownBy U (some (w.heap.size + 1))) : WtRel w cs l (i + 1) U := by
  have h1 := (Array.getElem?_eq_some_iff.1 h.box).1
  have h2 := h.old.trans (hb.mono h.old.size)
  refine ⟨h2.grown hg h2.size (fun k hk => by obtain rfl := Option.some.inj hk; omega), ?_, ?_⟩
  · rw [hg.block _ (Nat.lt_of_lt_of_le h1 hb.size) (by simp), hb.block _ h1]; exact h.box
  · rw [lk_take_snoc hx, List.map_append]; exact hs
set_option maxHeartbeats 8000000 in
theorem validWaiting_any {h v : Value} {t : Tb} {R : List Rng} (w : World) (ht : TbRd h v t R) (hR : RdIn w R) (hg : GoodTb t) (hh : HeldOk t.held) :
    Calls Try.prog 56 #[.agg (tbCells h v).toArray] w fun e w' => e = .returned (.bool (waitB t.held t.wait)) ∧ Below w.heap.size w w' := by
  obtain ⟨a, cap, rfl, hnc, hcm⟩ := ht.1.shape
  have HMo : Hid (∀ tx k W, Below w.heap.size w W → Calls Try.prog 44 #[.slice a t.held.length cap, .int .i64 tx, .agg (lkCells k).toArray] W fun e w' => e = .returned (.int .i64 (modeR t.held tx k.page k.slot)) ∧ Below W.heap.size W w') := fun tx k W hb => pmode_any tx k t.held _ R W hh.up ht.1 (hR.below hb) (by have := hg.few; omega)
  obtain ⟨a2, cap2, rfl, hnc2, hcm2, hg0⟩ := SlRd.open ht.2 hR
  have HGe := Lib.hid hg.wait
  have HN : Hid (t.wait.length ≤ 100000) := hg.few.2
  have HBx : Hid (∃ cs, cs = tbCells (.slice a t.held.length cap) (.slice a2 t.wait.length cap2)) := ⟨_, rfl⟩
  have h1 := (Hp.start w).put 25 (tbCells (.slice a t.held.length cap) (.slice a2 t.wait.length cap2))
  have hbx : (w.alloc (.cells (tbCells (.slice a t.held.length cap) (.slice a2 t.wait.length cap2)).toArray 25)).heap[w.heap.size]? = some (.cells (tbCells (.slice a t.held.length cap) (.slice a2 t.wait.length cap2)).toArray 25 (0, 0)) := h1.get 0 rfl
  have HW0 : Hid (WtRel w (tbCells (.slice a t.held.length cap) (.slice a2 t.wait.length cap2)) t.wait 0 ((w.alloc (.cells (tbCells (.slice a t.held.length cap) (.slice a2 t.wait.length cap2)).toArray 25)).alloc (.map #[] 0))) := by
    refine ⟨h1.old.alloc h1.old.size _, ?_, ?_⟩
    · have hlt := (Array.getElem?_eq_some_iff.1 hbx).1
      rw [((Below.refl _ _).alloc (Nat.le_refl _) (.map #[] 0) : Below _ (w.alloc (.cells (tbCells (.slice a t.held.length cap) (.slice a2 t.wait.length cap2)).toArray 25)) _).block _ hlt]
      exact hbx
    · have := SeenM.made (w.alloc (.cells (tbCells (.slice a t.held.length cap) (.slice a2 t.wait.length cap2)).toArray 25))
      rw [World.size_alloc] at this
      exact this
  have hmk := run_makeSet
  have b0' : (w.alloc (.cells (tbCells (.slice a t.held.length cap) (.slice a2 t.wait.length cap2)).toArray 25)).cell? ⟨w.heap.size, 1, none⟩ = some (.slice a2 t.wait.length cap2) := h1.at 0 rfl 1 rfl
  have HNg : Hid (∀ (i : Nat) (x : Gr), t.wait[i]? = some x → grOkB x = false → waitB t.held t.wait = false) := fun i x => w_grant
  have HNm : Hid (∀ (i : Nat) (x : Gr), t.wait[i]? = some x → x.mode ≤ modeR t.held x.tx x.page x.slot → waitB t.held t.wait = false) := fun i x => w_mode
  have HNt : Hid (∀ (i : Nat) (x : Gr), t.wait[i]? = some x → x.tx ∈ (t.wait.take i).map Gr.tx → waitB t.held t.wait = false) := fun i x => w_two
  have HYes : Hid (WaitOk t.held t.wait → waitB t.held t.wait = true) := waitB_iff.2
  have hwsz : (w.alloc (.cells (tbCells (.slice a t.held.length cap) (.slice a2 t.wait.length cap2)).toArray 25)).heap.size = w.heap.size + 1 := by simp
  clear h1 hbx ht hR hg hh hnc hcm hnc2 hcm2 HBx
  obtain ⟨fs, hu⟩ := under_gr
  have HUG := Lib.hid hu
  clear hu
  obtain ⟨fs2, hu2⟩ := under_lk
  have HUK := Lib.hid hu2
  clear hu2
  generalize waitB t.held t.wait = ok at *
  go_enter Try.func56, Try.ntmps56
  go_upto_region 1 with (fail)
  generalize (w.alloc (.cells (tbCells (.slice a t.held.length cap) (.slice a2 t.wait.length cap2)).toArray 25)) = w1 at *
  go_upto_region 2 with (fail)
  clear hmk b0' hwsz
  generalize w1.alloc (.map #[] 0) = w2 at *
  have b1 : w2.cell? ⟨w.heap.size, 1, none⟩ = some (.slice a2 t.wait.length cap2) := by rw [cell_of_row w2 _ 1 _ _ _ HW0.out.box]; rfl
  go_wp2_with fail
  clear b1
  go_loopw [13] (fun iv wr => ∃ i : Nat, i ≤ t.wait.length ∧ iv = .int .i64 i ∧ WaitOk t.held (t.wait.take i) ∧ WtRel w (tbCells (.slice a t.held.length cap) (.slice a2 t.wait.length cap2)) t.wait i wr) (fun iv _ => t.wait.length - (intOf iv).toNat)
  case atStart => exact ⟨0, by omega, rfl, waitOk_nil _, HW0.out⟩
  case round =>
    clear HW0
    obtain ⟨i, hi, rfl, hh, hs⟩ := hrel
    have HQ := Lib.hid hs
    have HH := Lib.hid hh
    clear hs hh
    by_cases hlt : i < t.wait.length
    · obtain ⟨g, off, rfl, hr⟩ := hg0.out (by omega)
      obtain ⟨x, hx⟩ : ∃ x, t.wait[i]? = some x := ⟨_, List.getElem?_eq_getElem hlt⟩
      have HBw : Hid (∀ W, BelW wr W → Below w.heap.size w W) := fun W (hb : Below wr.heap.size wr W) => HQ.out.old.trans (hb.mono HQ.out.old.size)
      have HRg : Hid (∀ W, BelW wr W → W.rangeAt g (off + i * 4) (grCells x)) := fun W (hb : Below wr.heap.size wr W) => elem_rng (hr W (HBw.out W hb)) hx
      have HBt : Hid (∀ W, BelW wr W → W.rangeAt w.heap.size 0 (tbCells (.slice a t.held.length cap) (.slice (some ⟨g, off, none⟩) t.wait.length cap2))) := fun W (hb : Below wr.heap.size wr W) j v hv => by
        rw [Nat.zero_add, cell_of_row W _ j _ _ _ ((hb.block _ (Array.getElem?_eq_some_iff.1 HQ.out.box).1).trans HQ.out.box), List.getElem?_toArray]; exact hv
      have HSe : Hid (∀ W, BelW wr W → SeenM W (w.heap.size + 1) i ((t.wait.take i).map Gr.tx)) := fun W (hb : Below wr.heap.size wr W) => HQ.out.seen.below hb
      have HXi := Lib.hid hx
      have HGx := Lib.hid (HGe.out x (List.mem_of_getElem? hx))
      have HGr : Hid (∀ W, Calls Try.prog 43 #[.agg (grCells x).toArray] W fun e w' => e = .returned (.bool (grOkB x)) ∧ Below W.heap.size W w') := fun W => pgrant_any x W
      have HOx := Lib.hid (@grOkB_iff x)
      have HMx : Hid (∀ W, Below w.heap.size w W → Calls Try.prog 44 #[.slice a t.held.length cap, .int .i64 x.tx, .agg (lkCells x.lock).toArray] W fun e w' => e = .returned (.int .i64 (modeR t.held x.tx x.page x.slot)) ∧ Below W.heap.size W w') := fun W hb => HMo.out x.tx x.lock W hb
      have hNx := HNg.out i x hx
      have hNm := HNm.out i x hx
      have hNt := HNt.out i x hx
      have hii : (i : Int) < (t.wait.length : Int) := by omega
      have hi0 : (0 : Int) ≤ (i : Int) := by omega
      have hiw : IntKind.i64.wrap ((i : Int) + 1) = (i : Int) + 1 := IntWalk.i64_in _ (by have := HN.out; omega)
      have HIm : Hid (i < maxLen) := by show i < _; have := HN.out; unfold maxLen; omega
      have HLt := Lib.hid hlt
      have HY := Lib.hid (Hp.start wr)
      clear hr hi hx hg0 hlt HMo
      go_upto_region 5 with (first | ((with_reducible refine wpList_load_at 29 (.tmp 15) g ((off + i * 4)) (grCells x) HUG.out ?_ ?_ ?_ ?_ ?_); (exact rfl); (exact (HRg.out _ (HY.out).old)); (exact rfl); (exact info_gr); simp only [Act.put, List.setIfInBounds_toArray, List.set_cons_zero, List.set_cons_succ]) | ((with_reducible refine wpList_alloc_ob 29 (grCells grNil) ?_ ?_); (exact alloc_gr); simp only [Act.put, List.setIfInBounds_toArray, List.set_cons_zero, List.set_cons_succ]) | ((with_reducible refine wpList_store_ob 29 (.tmp 5) (wr.heap.size) (grCells x) (grCells grNil) 29 ?_ ?_ ?_ ?_ ?_ ?_ ?_); (exact rfl); (exact rfl); (exact ((HY.out).put 29 (grCells grNil)).get 0 rfl); (exact info_gr); (exact rfl); (exact (oneCell_gr _)); skip))
      have HS21 : Hid (Hp wr [.ob (wr.heap.size) 29 (grCells x)] ((wr.alloc (.cells (grCells grNil).toArray 29)).setRow (wr.heap.size) (grCells x).toArray)) := ((HY.out).put 29 (grCells grNil)).row 0 rfl (grCells x)
      clear HY
      generalize ((wr.alloc (.cells (grCells grNil).toArray 29)).setRow (wr.heap.size) (grCells x).toArray) = w21 at *
      generalize wr.heap.size = B21 at *
      generalize grOkB x = gb at *
      obtain ⟨mo, hmoe⟩ : ∃ mo, modeR t.held x.tx x.page x.slot = mo := ⟨_, rfl⟩
      have HMe := Lib.hid hmoe
      simp only [hmoe] at HMx hNm
      clear hmoe
      cases gb
      case false =>
        have HX := Lib.hid (hNx rfl)
        clear hNx HOx hNm hNt
        refine wp_region_held_drew (S := fun w' => w'.rangeAt B21 0 (grCells x) ∧ w'.rangeAt w.heap.size 0 (tbCells (.slice a t.held.length cap) (.slice (some ⟨g, off, none⟩) t.wait.length cap2)) ∧ SeenM w' (w.heap.size + 1) i ((t.wait.take i).map Gr.tx)) (by kernel_rfl) (⟨(fun j v hv => by rw [Nat.zero_add]; exact ((HS21.out).drew).at 0 rfl j hv), (HBt.out _ ((HS21.out).drew).old), HSe.out _ ((HS21.out).drew).old⟩) (fun hHeld => ?_)
        refine wpAnyH_take (i := 0) (oi := { dst := some 17, op := Op.load 29 (Operand.tmp 5), type := 29, pos := "locks.go:70", after := #[], guard := none }) rfl (by kernel_rfl) (by kernel_rfl) (by kernel_rfl) (fun _ _ _ h => h) (yieldsIf_load_mid (by rfl) 29 (.tmp 5) rfl B21 (0) rfl (grCells x) _ (fun _ h => h.1) HUG.out rfl (info_gr)) hHeld ?_
        try simp only [Act.put, List.setIfInBounds_toArray, List.set_cons_zero, List.set_cons_succ]
        refine wpAnyH_ready (rs := [1]) (by kernel_rfl) (by simp) ?_
        refine AllReadyH.cons (o := { dst := some 18, op := Op.call { callee := Callee.value (Operand.func 43), args := #[Operand.tmp 17], argTypes := #[29] }, type := 4, pos := "locks.go:70", after := #[{ on := 0, ground := Ground.data }], guard := none }) rfl (fun K hK => ?_) (AllReadyH.nil)
        go_simp
        go_wp2_with (go_at_call 43; refine (HGr.out _).mono ?_; rintro e w61 ⟨rfl, hb⟩)
        have HS61 : Hid (Hp wr [.ob B21 29 (grCells x)] w61) := ((HS21.out).drew).calls hb
        refine hK.out _ _ (⟨(fun j v hv => by rw [Nat.zero_add]; exact (HS61.out).at 0 rfl j hv), (HBt.out _ (HS61.out).old), HSe.out _ (HS61.out).old⟩) (fun hHeld => ?_)
        clear hK K hb
        try simp only [Act.put, List.setIfInBounds_toArray, List.set_cons_zero, List.set_cons_succ]
        refine wpAnyH_take (i := 2) (oi := { dst := some 19, op := Op.unOp UnOp.not 4 (Operand.tmp 18), type := 4, pos := "locks.go:70", after := #[{ on := 1, ground := Ground.data }], guard := none }) (v := .bool true) rfl (by kernel_rfl) (by kernel_rfl) (by kernel_rfl) (fun _ _ _ h => h) (Or.inl ⟨by rfl, ?q102h⟩) hHeld ?q102r
        case q102h => (intro wq hSw; clear hSw; go_simp; try with_reducible rfl)
        try simp only [Act.put, List.setIfInBounds_toArray, List.set_cons_zero, List.set_cons_succ]
        refine wpAnyH_take (i := 3) (oi := { dst := some 20, op := Op.move (Operand.tmp 19), type := 4, pos := "locks.go:70", after := #[{ on := 2, ground := Ground.data }, { on := 1, ground := Ground.chain }], guard := none }) (v := ?q103v) rfl (by kernel_rfl) (by kernel_rfl) (by kernel_rfl) (fun _ _ _ h => h) (Or.inl ⟨by rfl, ?q103h⟩) hHeld ?q103r
        case q103h => (intro wq hSw; clear hSw; go_simp; try with_reducible rfl)
        try simp only [Act.put, List.setIfInBounds_toArray, List.set_cons_zero, List.set_cons_succ]
        refine wpAnyH_take (i := 4) (oi := { dst := some 21, op := Op.move (Operand.tmp 3), type := 63, pos := "locks.go:70", after := #[{ on := 3, ground := Ground.guard }], guard := some (3, false) }) (v := undef) rfl (by kernel_rfl) (by kernel_rfl) (by kernel_rfl) (fun _ _ _ h => h) (Or.inr ⟨by rfl, rfl⟩) hHeld ?_
        try simp only [Act.put, List.setIfInBounds_toArray, List.set_cons_zero, List.set_cons_succ]
        refine wpAnyH_take (i := 5) (oi := { dst := some 22, op := Op.fieldAddr 29 (Operand.tmp 5) 0, type := 0, pos := "locks.go:70", after := #[{ on := 3, ground := Ground.guard }], guard := some (3, false) }) (v := undef) rfl (by kernel_rfl) (by kernel_rfl) (by kernel_rfl) (fun _ _ _ h => h) (Or.inr ⟨by rfl, rfl⟩) hHeld ?_
        try simp only [Act.put, List.setIfInBounds_toArray, List.set_cons_zero, List.set_cons_succ]
        refine wpAnyH_take (i := 6) (oi := { dst := some 23, op := Op.load 3 (Operand.tmp 22), type := 3, pos := "locks.go:70", after := #[{ on := 5, ground := Ground.data }, { on := 3, ground := Ground.guard }], guard := some (3, false) }) (v := undef) rfl (by kernel_rfl) (by kernel_rfl) (by kernel_rfl) (fun _ _ _ h => h) (Or.inr ⟨by rfl, rfl⟩) hHeld ?_
        try simp only [Act.put, List.setIfInBounds_toArray, List.set_cons_zero, List.set_cons_succ]
        refine wpAnyH_take (i := 7) (oi := { dst := some 24, op := Op.lookup 63 (Operand.tmp 21) (Operand.tmp 23) false, type := 4, pos := "locks.go:70", after := #[{ on := 4, ground := Ground.data }, { on := 6, ground := Ground.data }, { on := 3, ground := Ground.guard }], guard := some (3, false) }) (v := undef) rfl (by kernel_rfl) (by kernel_rfl) (by kernel_rfl) (fun _ _ _ h => h) (Or.inr ⟨by rfl, rfl⟩) hHeld ?_
        try simp only [Act.put, List.setIfInBounds_toArray, List.set_cons_zero, List.set_cons_succ]
        refine wpAnyH_take (i := 8) (oi := { dst := some 25, op := Op.pick (Operand.tmp 20) (Operand.const (Value.bool true)) (Operand.tmp 24), type := 4, pos := "locks.go:70", after := #[{ on := 3, ground := Ground.data }, { on := 7, ground := Ground.data }], guard := none }) (v := ?q108v) rfl (by kernel_rfl) (by kernel_rfl) (by kernel_rfl) (fun _ _ _ h => h) (Or.inl ⟨by rfl, ?q108h⟩) hHeld ?q108r
        case q108h => (intro wq hSw; clear hSw; go_simp; try with_reducible rfl)
        try simp only [Act.put, List.setIfInBounds_toArray, List.set_cons_zero, List.set_cons_succ]
        refine wpAnyH_take (i := 9) (oi := { dst := some 26, op := Op.move (Operand.tmp 25), type := 4, pos := "locks.go:70", after := #[{ on := 8, ground := Ground.data }, { on := 3, ground := Ground.chain }], guard := none }) (v := ?q109v) rfl (by kernel_rfl) (by kernel_rfl) (by kernel_rfl) (fun _ _ _ h => h) (Or.inl ⟨by rfl, ?q109h⟩) hHeld ?q109r
        case q109h => (intro wq hSw; clear hSw; go_simp; try with_reducible rfl)
        try simp only [Act.put, List.setIfInBounds_toArray, List.set_cons_zero, List.set_cons_succ]
        refine wpAnyH_take (i := 10) (oi := { dst := some 27, op := Op.fieldAddr 25 (Operand.tmp 1) 0, type := 0, pos := "locks.go:70", after := #[{ on := 9, ground := Ground.guard }], guard := some (9, false) }) (v := undef) rfl (by kernel_rfl) (by kernel_rfl) (by kernel_rfl) (fun _ _ _ h => h) (Or.inr ⟨by rfl, rfl⟩) hHeld ?_
        try simp only [Act.put, List.setIfInBounds_toArray, List.set_cons_zero, List.set_cons_succ]
        refine wpAnyH_take (i := 11) (oi := { dst := some 28, op := Op.load 23 (Operand.tmp 27), type := 23, pos := "locks.go:70", after := #[{ on := 10, ground := Ground.data }, { on := 9, ground := Ground.guard }], guard := some (9, false) }) (v := undef) rfl (by kernel_rfl) (by kernel_rfl) (by kernel_rfl) (fun _ _ _ h => h) (Or.inr ⟨by rfl, rfl⟩) hHeld ?_
        try simp only [Act.put, List.setIfInBounds_toArray, List.set_cons_zero, List.set_cons_succ]
        refine wpAnyH_take (i := 12) (oi := { dst := some 29, op := Op.fieldAddr 29 (Operand.tmp 5) 0, type := 0, pos := "locks.go:70", after := #[{ on := 9, ground := Ground.guard }], guard := some (9, false) }) (v := undef) rfl (by kernel_rfl) (by kernel_rfl) (by kernel_rfl) (fun _ _ _ h => h) (Or.inr ⟨by rfl, rfl⟩) hHeld ?_
        try simp only [Act.put, List.setIfInBounds_toArray, List.set_cons_zero, List.set_cons_succ]
        refine wpAnyH_take (i := 13) (oi := { dst := some 30, op := Op.load 3 (Operand.tmp 29), type := 3, pos := "locks.go:70", after := #[{ on := 12, ground := Ground.data }, { on := 9, ground := Ground.guard }], guard := some (9, false) }) (v := undef) rfl (by kernel_rfl) (by kernel_rfl) (by kernel_rfl) (fun _ _ _ h => h) (Or.inr ⟨by rfl, rfl⟩) hHeld ?_
        try simp only [Act.put, List.setIfInBounds_toArray, List.set_cons_zero, List.set_cons_succ]
        refine wpAnyH_take (i := 14) (oi := { dst := some 31, op := Op.fieldAddr 29 (Operand.tmp 5) 1, type := 0, pos := "locks.go:70", after := #[{ on := 9, ground := Ground.guard }], guard := some (9, false) }) (v := undef) rfl (by kernel_rfl) (by kernel_rfl) (by kernel_rfl) (fun _ _ _ h => h) (Or.inr ⟨by rfl, rfl⟩) hHeld ?_
        try simp only [Act.put, List.setIfInBounds_toArray, List.set_cons_zero, List.set_cons_succ]
        refine wpAnyH_take (i := 15) (oi := { dst := some 32, op := Op.load 27 (Operand.tmp 31), type := 27, pos := "locks.go:70", after := #[{ on := 14, ground := Ground.data }, { on := 9, ground := Ground.guard }], guard := some (9, false) }) (v := undef) rfl (by kernel_rfl) (by kernel_rfl) (by kernel_rfl) (fun _ _ _ h => h) (Or.inr ⟨by rfl, rfl⟩) hHeld ?_
        try simp only [Act.put, List.setIfInBounds_toArray, List.set_cons_zero, List.set_cons_succ]
        refine wpAnyH_take (i := 17) (oi := { dst := some 34, op := Op.fieldAddr 29 (Operand.tmp 5) 2, type := 0, pos := "locks.go:70", after := #[{ on := 9, ground := Ground.guard }], guard := some (9, false) }) (v := undef) rfl (by kernel_rfl) (by kernel_rfl) (by kernel_rfl) (fun _ _ _ h => h) (Or.inr ⟨by rfl, rfl⟩) hHeld ?_
        try simp only [Act.put, List.setIfInBounds_toArray, List.set_cons_zero, List.set_cons_succ]
        refine wpAnyH_take (i := 18) (oi := { dst := some 35, op := Op.load 3 (Operand.tmp 34), type := 3, pos := "locks.go:70", after := #[{ on := 17, ground := Ground.data }, { on := 9, ground := Ground.guard }], guard := some (9, false) }) (v := undef) rfl (by kernel_rfl) (by kernel_rfl) (by kernel_rfl) (fun _ _ _ h => h) (Or.inr ⟨by rfl, rfl⟩) hHeld ?_
        try simp only [Act.put, List.setIfInBounds_toArray, List.set_cons_zero, List.set_cons_succ]
        refine wpAnyH_ready (rs := [16]) (by kernel_rfl) (by simp) ?_
        refine AllReadyH.cons (o := { dst := some 33, op := Op.call { callee := Callee.value (Operand.func 44), args := #[Operand.tmp 28, Operand.tmp 30, Operand.tmp 32], argTypes := #[23, 3, 27] }, type := 3, pos := "locks.go:70", after := #[{ on := 11, ground := Ground.data }, { on := 13, ground := Ground.data }, { on := 15, ground := Ground.data }, { on := 9, ground := Ground.chain }, { on := 9, ground := Ground.guard }], guard := some (9, false) }) rfl (fun K hK => ?_) (AllReadyH.nil)
        rw [if_neg (by exact Bool.false_ne_true)]
        have HS62 : Hid (Hp wr [.ob B21 29 (grCells x)] w61) := HS61.out
        refine hK.out _ _ (⟨(fun j v hv => by rw [Nat.zero_add]; exact (HS62.out).at 0 rfl j hv), (HBt.out _ (HS62.out).old), HSe.out _ (HS62.out).old⟩) (fun hHeld => ?_)
        clear hK K
        try simp only [Act.put, List.setIfInBounds_toArray, List.set_cons_zero, List.set_cons_succ]
        refine wpAnyH_take (i := 19) (oi := { dst := some 36, op := Op.binOp BinOp.geq 3 (Operand.tmp 33) (Operand.tmp 35) 3, type := 4, pos := "locks.go:70", after := #[{ on := 16, ground := Ground.data }, { on := 18, ground := Ground.data }, { on := 9, ground := Ground.guard }], guard := some (9, false) }) (v := undef) rfl (by kernel_rfl) (by kernel_rfl) (by kernel_rfl) (fun _ _ _ h => h) (Or.inr ⟨by rfl, rfl⟩) hHeld ?_
        try simp only [Act.put, List.setIfInBounds_toArray, List.set_cons_zero, List.set_cons_succ]
        refine wpAnyH_take (i := 20) (oi := { dst := some 37, op := Op.pick (Operand.tmp 26) (Operand.const (Value.bool true)) (Operand.tmp 36), type := 4, pos := "locks.go:70", after := #[{ on := 9, ground := Ground.data }, { on := 19, ground := Ground.data }], guard := none }) (v := ?q119v) rfl (by kernel_rfl) (by kernel_rfl) (by kernel_rfl) (fun _ _ _ h => h) (Or.inl ⟨by rfl, ?q119h⟩) hHeld ?q119r
        case q119h => (intro wq hSw; clear hSw; go_simp; try with_reducible rfl)
        try simp only [Act.put, List.setIfInBounds_toArray, List.set_cons_zero, List.set_cons_succ]
        refine wpAnyH_done (by kernel_rfl) ?_ _
        clear hHeld
        go_wp2_with fail
        go_ret
        exact ⟨by rw [HX.out]; rfl, HBw.out _ (HS62.out).old⟩
      case true =>
        have HOk1 := Lib.hid (HOx.out.1 rfl)
        clear hNx HOx
        by_cases hm : x.tx ∈ (t.wait.take i).map Gr.tx
        · have HX := Lib.hid (hNt hm)
          have HMem := Lib.hid (decide_eq_true hm)
          clear hNm hNt hm
          refine wp_region_held_drew (S := fun w' => w'.rangeAt B21 0 (grCells x) ∧ w'.rangeAt w.heap.size 0 (tbCells (.slice a t.held.length cap) (.slice (some ⟨g, off, none⟩) t.wait.length cap2)) ∧ SeenM w' (w.heap.size + 1) i ((t.wait.take i).map Gr.tx)) (by kernel_rfl) (⟨(fun j v hv => by rw [Nat.zero_add]; exact ((HS21.out).drew).at 0 rfl j hv), (HBt.out _ ((HS21.out).drew).old), HSe.out _ ((HS21.out).drew).old⟩) (fun hHeld => ?_)
          refine wpAnyH_take (i := 0) (oi := { dst := some 17, op := Op.load 29 (Operand.tmp 5), type := 29, pos := "locks.go:70", after := #[], guard := none }) rfl (by kernel_rfl) (by kernel_rfl) (by kernel_rfl) (fun _ _ _ h => h) (yieldsIf_load_mid (by rfl) 29 (.tmp 5) rfl B21 (0) rfl (grCells x) _ (fun _ h => h.1) HUG.out rfl (info_gr)) hHeld ?_
          try simp only [Act.put, List.setIfInBounds_toArray, List.set_cons_zero, List.set_cons_succ]
          refine wpAnyH_ready (rs := [1]) (by kernel_rfl) (by simp) ?_
          refine AllReadyH.cons (o := { dst := some 18, op := Op.call { callee := Callee.value (Operand.func 43), args := #[Operand.tmp 17], argTypes := #[29] }, type := 4, pos := "locks.go:70", after := #[{ on := 0, ground := Ground.data }], guard := none }) rfl (fun K hK => ?_) (AllReadyH.nil)
          go_simp
          go_wp2_with (go_at_call 43; refine (HGr.out _).mono ?_; rintro e w61 ⟨rfl, hb⟩)
          have HS61 : Hid (Hp wr [.ob B21 29 (grCells x)] w61) := ((HS21.out).drew).calls hb
          refine hK.out _ _ (⟨(fun j v hv => by rw [Nat.zero_add]; exact (HS61.out).at 0 rfl j hv), (HBt.out _ (HS61.out).old), HSe.out _ (HS61.out).old⟩) (fun hHeld => ?_)
          clear hK K hb
          try simp only [Act.put, List.setIfInBounds_toArray, List.set_cons_zero, List.set_cons_succ]
          refine wpAnyH_take (i := 2) (oi := { dst := some 19, op := Op.unOp UnOp.not 4 (Operand.tmp 18), type := 4, pos := "locks.go:70", after := #[{ on := 1, ground := Ground.data }], guard := none }) (v := .bool false) rfl (by kernel_rfl) (by kernel_rfl) (by kernel_rfl) (fun _ _ _ h => h) (Or.inl ⟨by rfl, ?q202h⟩) hHeld ?q202r
          case q202h => (intro wq hSw; clear hSw; go_simp; try with_reducible rfl)
          try simp only [Act.put, List.setIfInBounds_toArray, List.set_cons_zero, List.set_cons_succ]
          refine wpAnyH_take (i := 3) (oi := { dst := some 20, op := Op.move (Operand.tmp 19), type := 4, pos := "locks.go:70", after := #[{ on := 2, ground := Ground.data }, { on := 1, ground := Ground.chain }], guard := none }) (v := ?q203v) rfl (by kernel_rfl) (by kernel_rfl) (by kernel_rfl) (fun _ _ _ h => h) (Or.inl ⟨by rfl, ?q203h⟩) hHeld ?q203r
          case q203h => (intro wq hSw; clear hSw; go_simp; try with_reducible rfl)
          try simp only [Act.put, List.setIfInBounds_toArray, List.set_cons_zero, List.set_cons_succ]
          refine wpAnyH_take (i := 4) (oi := { dst := some 21, op := Op.move (Operand.tmp 3), type := 63, pos := "locks.go:70", after := #[{ on := 3, ground := Ground.guard }], guard := some (3, false) }) (v := ?q204v) rfl (by kernel_rfl) (by kernel_rfl) (by kernel_rfl) (fun _ _ _ h => h) (Or.inl ⟨by rfl, ?q204h⟩) hHeld ?q204r
          case q204h => (intro wq hSw; clear hSw; go_simp; try with_reducible rfl)
          try simp only [Act.put, List.setIfInBounds_toArray, List.set_cons_zero, List.set_cons_succ]
          refine wpAnyH_take (i := 5) (oi := { dst := some 22, op := Op.fieldAddr 29 (Operand.tmp 5) 0, type := 0, pos := "locks.go:70", after := #[{ on := 3, ground := Ground.guard }], guard := some (3, false) }) (v := ?q205v) rfl (by kernel_rfl) (by kernel_rfl) (by kernel_rfl) (fun _ _ _ h => h) (Or.inl ⟨by rfl, ?q205h⟩) hHeld ?q205r
          case q205h => (intro wq hSw; clear hSw; go_simp; try with_reducible rfl)
          try simp only [Act.put, List.setIfInBounds_toArray, List.set_cons_zero, List.set_cons_succ]
          refine wpAnyH_take (i := 6) (oi := { dst := some 23, op := Op.load 3 (Operand.tmp 22), type := 3, pos := "locks.go:70", after := #[{ on := 5, ground := Ground.data }, { on := 3, ground := Ground.guard }], guard := some (3, false) }) (v := .int .i64 x.tx) rfl (by kernel_rfl) (by kernel_rfl) (by kernel_rfl) (fun _ _ _ h => h) (Or.inl ⟨by rfl, ?q206h⟩) hHeld ?q206r
          case q206h => (intro wq hSw; have lq := (hSw.1) 0 (.int .i64 x.tx) rfl; simp only [Nat.zero_add] at lq; clear hSw; go_simp; try with_reducible rfl)
          try simp only [Act.put, List.setIfInBounds_toArray, List.set_cons_zero, List.set_cons_succ]
          refine wpAnyH_take (i := 7) (oi := { dst := some 24, op := Op.lookup 63 (Operand.tmp 21) (Operand.tmp 23) false, type := 4, pos := "locks.go:70", after := #[{ on := 4, ground := Ground.data }, { on := 6, ground := Ground.data }, { on := 3, ground := Ground.guard }], guard := some (3, false) }) (v := .bool true) rfl (by kernel_rfl) (by kernel_rfl) (by kernel_rfl) (fun _ _ _ h => h) (Or.inl ⟨by rfl, ?q207h⟩) hHeld ?q207r
          case q207h => (intro wq hSw; have lq := seen_look hSw.2.2 HGx.out.tx HMem.out; clear hSw; go_simp; try with_reducible rfl)
          try simp only [Act.put, List.setIfInBounds_toArray, List.set_cons_zero, List.set_cons_succ]
          refine wpAnyH_take (i := 8) (oi := { dst := some 25, op := Op.pick (Operand.tmp 20) (Operand.const (Value.bool true)) (Operand.tmp 24), type := 4, pos := "locks.go:70", after := #[{ on := 3, ground := Ground.data }, { on := 7, ground := Ground.data }], guard := none }) (v := ?q208v) rfl (by kernel_rfl) (by kernel_rfl) (by kernel_rfl) (fun _ _ _ h => h) (Or.inl ⟨by rfl, ?q208h⟩) hHeld ?q208r
          case q208h => (intro wq hSw; clear hSw; go_simp; try with_reducible rfl)
          try simp only [Act.put, List.setIfInBounds_toArray, List.set_cons_zero, List.set_cons_succ]
          refine wpAnyH_take (i := 9) (oi := { dst := some 26, op := Op.move (Operand.tmp 25), type := 4, pos := "locks.go:70", after := #[{ on := 8, ground := Ground.data }, { on := 3, ground := Ground.chain }], guard := none }) (v := ?q209v) rfl (by kernel_rfl) (by kernel_rfl) (by kernel_rfl) (fun _ _ _ h => h) (Or.inl ⟨by rfl, ?q209h⟩) hHeld ?q209r
          case q209h => (intro wq hSw; clear hSw; go_simp; try with_reducible rfl)
          try simp only [Act.put, List.setIfInBounds_toArray, List.set_cons_zero, List.set_cons_succ]
          refine wpAnyH_take (i := 10) (oi := { dst := some 27, op := Op.fieldAddr 25 (Operand.tmp 1) 0, type := 0, pos := "locks.go:70", after := #[{ on := 9, ground := Ground.guard }], guard := some (9, false) }) (v := undef) rfl (by kernel_rfl) (by kernel_rfl) (by kernel_rfl) (fun _ _ _ h => h) (Or.inr ⟨by rfl, rfl⟩) hHeld ?_
          try simp only [Act.put, List.setIfInBounds_toArray, List.set_cons_zero, List.set_cons_succ]
          refine wpAnyH_take (i := 11) (oi := { dst := some 28, op := Op.load 23 (Operand.tmp 27), type := 23, pos := "locks.go:70", after := #[{ on := 10, ground := Ground.data }, { on := 9, ground := Ground.guard }], guard := some (9, false) }) (v := undef) rfl (by kernel_rfl) (by kernel_rfl) (by kernel_rfl) (fun _ _ _ h => h) (Or.inr ⟨by rfl, rfl⟩) hHeld ?_
          try simp only [Act.put, List.setIfInBounds_toArray, List.set_cons_zero, List.set_cons_succ]
          refine wpAnyH_take (i := 12) (oi := { dst := some 29, op := Op.fieldAddr 29 (Operand.tmp 5) 0, type := 0, pos := "locks.go:70", after := #[{ on := 9, ground := Ground.guard }], guard := some (9, false) }) (v := undef) rfl (by kernel_rfl) (by kernel_rfl) (by kernel_rfl) (fun _ _ _ h => h) (Or.inr ⟨by rfl, rfl⟩) hHeld ?_
          try simp only [Act.put, List.setIfInBounds_toArray, List.set_cons_zero, List.set_cons_succ]
          refine wpAnyH_take (i := 13) (oi := { dst := some 30, op := Op.load 3 (Operand.tmp 29), type := 3, pos := "locks.go:70", after := #[{ on := 12, ground := Ground.data }, { on := 9, ground := Ground.guard }], guard := some (9, false) }) (v := undef) rfl (by kernel_rfl) (by kernel_rfl) (by kernel_rfl) (fun _ _ _ h => h) (Or.inr ⟨by rfl, rfl⟩) hHeld ?_
          try simp only [Act.put, List.setIfInBounds_toArray, List.set_cons_zero, List.set_cons_succ]
          refine wpAnyH_take (i := 14) (oi := { dst := some 31, op := Op.fieldAddr 29 (Operand.tmp 5) 1, type := 0, pos := "locks.go:70", after := #[{ on := 9, ground := Ground.guard }], guard := some (9, false) }) (v := undef) rfl (by kernel_rfl) (by kernel_rfl) (by kernel_rfl) (fun _ _ _ h => h) (Or.inr ⟨by rfl, rfl⟩) hHeld ?_
          try simp only [Act.put, List.setIfInBounds_toArray, List.set_cons_zero, List.set_cons_succ]
          refine wpAnyH_take (i := 15) (oi := { dst := some 32, op := Op.load 27 (Operand.tmp 31), type := 27, pos := "locks.go:70", after := #[{ on := 14, ground := Ground.data }, { on := 9, ground := Ground.guard }], guard := some (9, false) }) (v := undef) rfl (by kernel_rfl) (by kernel_rfl) (by kernel_rfl) (fun _ _ _ h => h) (Or.inr ⟨by rfl, rfl⟩) hHeld ?_
          try simp only [Act.put, List.setIfInBounds_toArray, List.set_cons_zero, List.set_cons_succ]
          refine wpAnyH_take (i := 17) (oi := { dst := some 34, op := Op.fieldAddr 29 (Operand.tmp 5) 2, type := 0, pos := "locks.go:70", after := #[{ on := 9, ground := Ground.guard }], guard := some (9, false) }) (v := undef) rfl (by kernel_rfl) (by kernel_rfl) (by kernel_rfl) (fun _ _ _ h => h) (Or.inr ⟨by rfl, rfl⟩) hHeld ?_
          try simp only [Act.put, List.setIfInBounds_toArray, List.set_cons_zero, List.set_cons_succ]
          refine wpAnyH_take (i := 18) (oi := { dst := some 35, op := Op.load 3 (Operand.tmp 34), type := 3, pos := "locks.go:70", after := #[{ on := 17, ground := Ground.data }, { on := 9, ground := Ground.guard }], guard := some (9, false) }) (v := undef) rfl (by kernel_rfl) (by kernel_rfl) (by kernel_rfl) (fun _ _ _ h => h) (Or.inr ⟨by rfl, rfl⟩) hHeld ?_
          try simp only [Act.put, List.setIfInBounds_toArray, List.set_cons_zero, List.set_cons_succ]
          refine wpAnyH_ready (rs := [16]) (by kernel_rfl) (by simp) ?_
          refine AllReadyH.cons (o := { dst := some 33, op := Op.call { callee := Callee.value (Operand.func 44), args := #[Operand.tmp 28, Operand.tmp 30, Operand.tmp 32], argTypes := #[23, 3, 27] }, type := 3, pos := "locks.go:70", after := #[{ on := 11, ground := Ground.data }, { on := 13, ground := Ground.data }, { on := 15, ground := Ground.data }, { on := 9, ground := Ground.chain }, { on := 9, ground := Ground.guard }], guard := some (9, false) }) rfl (fun K hK => ?_) (AllReadyH.nil)
          rw [if_neg (by exact Bool.false_ne_true)]
          have HS62 : Hid (Hp wr [.ob B21 29 (grCells x)] w61) := HS61.out
          refine hK.out _ _ (⟨(fun j v hv => by rw [Nat.zero_add]; exact (HS62.out).at 0 rfl j hv), (HBt.out _ (HS62.out).old), HSe.out _ (HS62.out).old⟩) (fun hHeld => ?_)
          clear hK K
          try simp only [Act.put, List.setIfInBounds_toArray, List.set_cons_zero, List.set_cons_succ]
          refine wpAnyH_take (i := 19) (oi := { dst := some 36, op := Op.binOp BinOp.geq 3 (Operand.tmp 33) (Operand.tmp 35) 3, type := 4, pos := "locks.go:70", after := #[{ on := 16, ground := Ground.data }, { on := 18, ground := Ground.data }, { on := 9, ground := Ground.guard }], guard := some (9, false) }) (v := undef) rfl (by kernel_rfl) (by kernel_rfl) (by kernel_rfl) (fun _ _ _ h => h) (Or.inr ⟨by rfl, rfl⟩) hHeld ?_
          try simp only [Act.put, List.setIfInBounds_toArray, List.set_cons_zero, List.set_cons_succ]
          refine wpAnyH_take (i := 20) (oi := { dst := some 37, op := Op.pick (Operand.tmp 26) (Operand.const (Value.bool true)) (Operand.tmp 36), type := 4, pos := "locks.go:70", after := #[{ on := 9, ground := Ground.data }, { on := 19, ground := Ground.data }], guard := none }) (v := ?q219v) rfl (by kernel_rfl) (by kernel_rfl) (by kernel_rfl) (fun _ _ _ h => h) (Or.inl ⟨by rfl, ?q219h⟩) hHeld ?q219r
          case q219h => (intro wq hSw; clear hSw; go_simp; try with_reducible rfl)
          try simp only [Act.put, List.setIfInBounds_toArray, List.set_cons_zero, List.set_cons_succ]
          refine wpAnyH_done (by kernel_rfl) ?_ _
          clear hHeld
          go_wp2_with fail
          go_ret
          exact ⟨by rw [HX.out]; rfl, HBw.out _ (HS62.out).old⟩
        · have HMem := Lib.hid (decide_eq_false hm)
          have HM1 := Lib.hid hm
          clear hNt hm
          by_cases hmo : x.mode ≤ mo
          · have HX := Lib.hid (hNm hmo)
            have dmo : decide (x.mode ≤ mo) = true := decide_eq_true hmo
            clear hNm hmo
            refine wp_region_held_drew (S := fun w' => w'.rangeAt B21 0 (grCells x) ∧ w'.rangeAt w.heap.size 0 (tbCells (.slice a t.held.length cap) (.slice (some ⟨g, off, none⟩) t.wait.length cap2)) ∧ SeenM w' (w.heap.size + 1) i ((t.wait.take i).map Gr.tx)) (by kernel_rfl) (⟨(fun j v hv => by rw [Nat.zero_add]; exact ((HS21.out).drew).at 0 rfl j hv), (HBt.out _ ((HS21.out).drew).old), HSe.out _ ((HS21.out).drew).old⟩) (fun hHeld => ?_)
            refine wpAnyH_take (i := 0) (oi := { dst := some 17, op := Op.load 29 (Operand.tmp 5), type := 29, pos := "locks.go:70", after := #[], guard := none }) rfl (by kernel_rfl) (by kernel_rfl) (by kernel_rfl) (fun _ _ _ h => h) (yieldsIf_load_mid (by rfl) 29 (.tmp 5) rfl B21 (0) rfl (grCells x) _ (fun _ h => h.1) HUG.out rfl (info_gr)) hHeld ?_
            try simp only [Act.put, List.setIfInBounds_toArray, List.set_cons_zero, List.set_cons_succ]
            refine wpAnyH_ready (rs := [1]) (by kernel_rfl) (by simp) ?_
            refine AllReadyH.cons (o := { dst := some 18, op := Op.call { callee := Callee.value (Operand.func 43), args := #[Operand.tmp 17], argTypes := #[29] }, type := 4, pos := "locks.go:70", after := #[{ on := 0, ground := Ground.data }], guard := none }) rfl (fun K hK => ?_) (AllReadyH.nil)
            go_simp
            go_wp2_with (go_at_call 43; refine (HGr.out _).mono ?_; rintro e w61 ⟨rfl, hb⟩)
            have HS61 : Hid (Hp wr [.ob B21 29 (grCells x)] w61) := ((HS21.out).drew).calls hb
            refine hK.out _ _ (⟨(fun j v hv => by rw [Nat.zero_add]; exact (HS61.out).at 0 rfl j hv), (HBt.out _ (HS61.out).old), HSe.out _ (HS61.out).old⟩) (fun hHeld => ?_)
            clear hK K hb
            try simp only [Act.put, List.setIfInBounds_toArray, List.set_cons_zero, List.set_cons_succ]
            refine wpAnyH_take (i := 2) (oi := { dst := some 19, op := Op.unOp UnOp.not 4 (Operand.tmp 18), type := 4, pos := "locks.go:70", after := #[{ on := 1, ground := Ground.data }], guard := none }) (v := .bool false) rfl (by kernel_rfl) (by kernel_rfl) (by kernel_rfl) (fun _ _ _ h => h) (Or.inl ⟨by rfl, ?q302h⟩) hHeld ?q302r
            case q302h => (intro wq hSw; clear hSw; go_simp; try with_reducible rfl)
            try simp only [Act.put, List.setIfInBounds_toArray, List.set_cons_zero, List.set_cons_succ]
            refine wpAnyH_take (i := 3) (oi := { dst := some 20, op := Op.move (Operand.tmp 19), type := 4, pos := "locks.go:70", after := #[{ on := 2, ground := Ground.data }, { on := 1, ground := Ground.chain }], guard := none }) (v := ?q303v) rfl (by kernel_rfl) (by kernel_rfl) (by kernel_rfl) (fun _ _ _ h => h) (Or.inl ⟨by rfl, ?q303h⟩) hHeld ?q303r
            case q303h => (intro wq hSw; clear hSw; go_simp; try with_reducible rfl)
            try simp only [Act.put, List.setIfInBounds_toArray, List.set_cons_zero, List.set_cons_succ]
            refine wpAnyH_take (i := 4) (oi := { dst := some 21, op := Op.move (Operand.tmp 3), type := 63, pos := "locks.go:70", after := #[{ on := 3, ground := Ground.guard }], guard := some (3, false) }) (v := ?q304v) rfl (by kernel_rfl) (by kernel_rfl) (by kernel_rfl) (fun _ _ _ h => h) (Or.inl ⟨by rfl, ?q304h⟩) hHeld ?q304r
            case q304h => (intro wq hSw; clear hSw; go_simp; try with_reducible rfl)
            try simp only [Act.put, List.setIfInBounds_toArray, List.set_cons_zero, List.set_cons_succ]
            refine wpAnyH_take (i := 5) (oi := { dst := some 22, op := Op.fieldAddr 29 (Operand.tmp 5) 0, type := 0, pos := "locks.go:70", after := #[{ on := 3, ground := Ground.guard }], guard := some (3, false) }) (v := ?q305v) rfl (by kernel_rfl) (by kernel_rfl) (by kernel_rfl) (fun _ _ _ h => h) (Or.inl ⟨by rfl, ?q305h⟩) hHeld ?q305r
            case q305h => (intro wq hSw; clear hSw; go_simp; try with_reducible rfl)
            try simp only [Act.put, List.setIfInBounds_toArray, List.set_cons_zero, List.set_cons_succ]
            refine wpAnyH_take (i := 6) (oi := { dst := some 23, op := Op.load 3 (Operand.tmp 22), type := 3, pos := "locks.go:70", after := #[{ on := 5, ground := Ground.data }, { on := 3, ground := Ground.guard }], guard := some (3, false) }) (v := .int .i64 x.tx) rfl (by kernel_rfl) (by kernel_rfl) (by kernel_rfl) (fun _ _ _ h => h) (Or.inl ⟨by rfl, ?q306h⟩) hHeld ?q306r
            case q306h => (intro wq hSw; have lq := (hSw.1) 0 (.int .i64 x.tx) rfl; simp only [Nat.zero_add] at lq; clear hSw; go_simp; try with_reducible rfl)
            try simp only [Act.put, List.setIfInBounds_toArray, List.set_cons_zero, List.set_cons_succ]
            refine wpAnyH_take (i := 7) (oi := { dst := some 24, op := Op.lookup 63 (Operand.tmp 21) (Operand.tmp 23) false, type := 4, pos := "locks.go:70", after := #[{ on := 4, ground := Ground.data }, { on := 6, ground := Ground.data }, { on := 3, ground := Ground.guard }], guard := some (3, false) }) (v := .bool false) rfl (by kernel_rfl) (by kernel_rfl) (by kernel_rfl) (fun _ _ _ h => h) (Or.inl ⟨by rfl, ?q307h⟩) hHeld ?q307r
            case q307h => (intro wq hSw; have lq := seen_look hSw.2.2 HGx.out.tx HMem.out; clear hSw; go_simp; try with_reducible rfl)
            try simp only [Act.put, List.setIfInBounds_toArray, List.set_cons_zero, List.set_cons_succ]
            refine wpAnyH_take (i := 8) (oi := { dst := some 25, op := Op.pick (Operand.tmp 20) (Operand.const (Value.bool true)) (Operand.tmp 24), type := 4, pos := "locks.go:70", after := #[{ on := 3, ground := Ground.data }, { on := 7, ground := Ground.data }], guard := none }) (v := ?q308v) rfl (by kernel_rfl) (by kernel_rfl) (by kernel_rfl) (fun _ _ _ h => h) (Or.inl ⟨by rfl, ?q308h⟩) hHeld ?q308r
            case q308h => (intro wq hSw; clear hSw; go_simp; try with_reducible rfl)
            try simp only [Act.put, List.setIfInBounds_toArray, List.set_cons_zero, List.set_cons_succ]
            refine wpAnyH_take (i := 9) (oi := { dst := some 26, op := Op.move (Operand.tmp 25), type := 4, pos := "locks.go:70", after := #[{ on := 8, ground := Ground.data }, { on := 3, ground := Ground.chain }], guard := none }) (v := ?q309v) rfl (by kernel_rfl) (by kernel_rfl) (by kernel_rfl) (fun _ _ _ h => h) (Or.inl ⟨by rfl, ?q309h⟩) hHeld ?q309r
            case q309h => (intro wq hSw; clear hSw; go_simp; try with_reducible rfl)
            try simp only [Act.put, List.setIfInBounds_toArray, List.set_cons_zero, List.set_cons_succ]
            refine wpAnyH_take (i := 10) (oi := { dst := some 27, op := Op.fieldAddr 25 (Operand.tmp 1) 0, type := 0, pos := "locks.go:70", after := #[{ on := 9, ground := Ground.guard }], guard := some (9, false) }) (v := ?q310v) rfl (by kernel_rfl) (by kernel_rfl) (by kernel_rfl) (fun _ _ _ h => h) (Or.inl ⟨by rfl, ?q310h⟩) hHeld ?q310r
            case q310h => (intro wq hSw; clear hSw; go_simp; try with_reducible rfl)
            try simp only [Act.put, List.setIfInBounds_toArray, List.set_cons_zero, List.set_cons_succ]
            refine wpAnyH_take (i := 11) (oi := { dst := some 28, op := Op.load 23 (Operand.tmp 27), type := 23, pos := "locks.go:70", after := #[{ on := 10, ground := Ground.data }, { on := 9, ground := Ground.guard }], guard := some (9, false) }) (v := .slice a t.held.length cap) rfl (by kernel_rfl) (by kernel_rfl) (by kernel_rfl) (fun _ _ _ h => h) (Or.inl ⟨by rfl, ?q311h⟩) hHeld ?q311r
            case q311h => (intro wq hSw; have lq := (hSw.2.1) 0 (.slice a t.held.length cap) rfl; simp only [Nat.zero_add] at lq; clear hSw; go_simp; try with_reducible rfl)
            try simp only [Act.put, List.setIfInBounds_toArray, List.set_cons_zero, List.set_cons_succ]
            refine wpAnyH_take (i := 12) (oi := { dst := some 29, op := Op.fieldAddr 29 (Operand.tmp 5) 0, type := 0, pos := "locks.go:70", after := #[{ on := 9, ground := Ground.guard }], guard := some (9, false) }) (v := ?q312v) rfl (by kernel_rfl) (by kernel_rfl) (by kernel_rfl) (fun _ _ _ h => h) (Or.inl ⟨by rfl, ?q312h⟩) hHeld ?q312r
            case q312h => (intro wq hSw; clear hSw; go_simp; try with_reducible rfl)
            try simp only [Act.put, List.setIfInBounds_toArray, List.set_cons_zero, List.set_cons_succ]
            refine wpAnyH_take (i := 13) (oi := { dst := some 30, op := Op.load 3 (Operand.tmp 29), type := 3, pos := "locks.go:70", after := #[{ on := 12, ground := Ground.data }, { on := 9, ground := Ground.guard }], guard := some (9, false) }) (v := .int .i64 x.tx) rfl (by kernel_rfl) (by kernel_rfl) (by kernel_rfl) (fun _ _ _ h => h) (Or.inl ⟨by rfl, ?q313h⟩) hHeld ?q313r
            case q313h => (intro wq hSw; have lq := (hSw.1) 0 (.int .i64 x.tx) rfl; simp only [Nat.zero_add] at lq; clear hSw; go_simp; try with_reducible rfl)
            try simp only [Act.put, List.setIfInBounds_toArray, List.set_cons_zero, List.set_cons_succ]
            refine wpAnyH_take (i := 14) (oi := { dst := some 31, op := Op.fieldAddr 29 (Operand.tmp 5) 1, type := 0, pos := "locks.go:70", after := #[{ on := 9, ground := Ground.guard }], guard := some (9, false) }) (v := ?q314v) rfl (by kernel_rfl) (by kernel_rfl) (by kernel_rfl) (fun _ _ _ h => h) (Or.inl ⟨by rfl, ?q314h⟩) hHeld ?q314r
            case q314h => (intro wq hSw; clear hSw; go_simp; try with_reducible rfl)
            try simp only [Act.put, List.setIfInBounds_toArray, List.set_cons_zero, List.set_cons_succ]
            refine wpAnyH_take (i := 15) (oi := { dst := some 32, op := Op.load 27 (Operand.tmp 31), type := 27, pos := "locks.go:70", after := #[{ on := 14, ground := Ground.data }, { on := 9, ground := Ground.guard }], guard := some (9, false) }) rfl (by kernel_rfl) (by kernel_rfl) (by kernel_rfl) (fun _ _ _ h => h) (yieldsIf_load_mid (by rfl) 27 (.tmp 31) rfl B21 (1) rfl (lkCells x.lock) _ (fun _ h => range_part (h.1) (mid_lk x)) HUK.out rfl (info_lk)) hHeld ?_
            try simp only [Act.put, List.setIfInBounds_toArray, List.set_cons_zero, List.set_cons_succ]
            refine wpAnyH_take (i := 17) (oi := { dst := some 34, op := Op.fieldAddr 29 (Operand.tmp 5) 2, type := 0, pos := "locks.go:70", after := #[{ on := 9, ground := Ground.guard }], guard := some (9, false) }) (v := ?q316v) rfl (by kernel_rfl) (by kernel_rfl) (by kernel_rfl) (fun _ _ _ h => h) (Or.inl ⟨by rfl, ?q316h⟩) hHeld ?q316r
            case q316h => (intro wq hSw; clear hSw; go_simp; try with_reducible rfl)
            try simp only [Act.put, List.setIfInBounds_toArray, List.set_cons_zero, List.set_cons_succ]
            refine wpAnyH_take (i := 18) (oi := { dst := some 35, op := Op.load 3 (Operand.tmp 34), type := 3, pos := "locks.go:70", after := #[{ on := 17, ground := Ground.data }, { on := 9, ground := Ground.guard }], guard := some (9, false) }) (v := .int .i64 x.mode) rfl (by kernel_rfl) (by kernel_rfl) (by kernel_rfl) (fun _ _ _ h => h) (Or.inl ⟨by rfl, ?q317h⟩) hHeld ?q317r
            case q317h => (intro wq hSw; have lq := (hSw.1) 3 (.int .i64 x.mode) rfl; simp only [Nat.zero_add] at lq; clear hSw; go_simp; try with_reducible rfl)
            try simp only [Act.put, List.setIfInBounds_toArray, List.set_cons_zero, List.set_cons_succ]
            refine wpAnyH_ready (rs := [16]) (by kernel_rfl) (by simp) ?_
            refine AllReadyH.cons (o := { dst := some 33, op := Op.call { callee := Callee.value (Operand.func 44), args := #[Operand.tmp 28, Operand.tmp 30, Operand.tmp 32], argTypes := #[23, 3, 27] }, type := 3, pos := "locks.go:70", after := #[{ on := 11, ground := Ground.data }, { on := 13, ground := Ground.data }, { on := 15, ground := Ground.data }, { on := 9, ground := Ground.chain }, { on := 9, ground := Ground.guard }], guard := some (9, false) }) rfl (fun K hK => ?_) (AllReadyH.nil)
            go_simp
            go_wp2_with (go_at_call 44; refine (HMx.out _ (HBw.out _ (HS61.out).old)).mono ?_; rintro e w62 ⟨rfl, hb⟩)
            have HS62 : Hid (Hp wr [.ob B21 29 (grCells x)] w62) := (HS61.out).calls hb
            refine hK.out _ _ (⟨(fun j v hv => by rw [Nat.zero_add]; exact (HS62.out).at 0 rfl j hv), (HBt.out _ (HS62.out).old), HSe.out _ (HS62.out).old⟩) (fun hHeld => ?_)
            clear hK K hb
            try simp only [Act.put, List.setIfInBounds_toArray, List.set_cons_zero, List.set_cons_succ]
            refine wpAnyH_take (i := 19) (oi := { dst := some 36, op := Op.binOp BinOp.geq 3 (Operand.tmp 33) (Operand.tmp 35) 3, type := 4, pos := "locks.go:70", after := #[{ on := 16, ground := Ground.data }, { on := 18, ground := Ground.data }, { on := 9, ground := Ground.guard }], guard := some (9, false) }) (v := .bool true) rfl (by kernel_rfl) (by kernel_rfl) (by kernel_rfl) (fun _ _ _ h => h) (Or.inl ⟨by rfl, ?q318h⟩) hHeld ?q318r
            case q318h => (intro wq hSw; clear hSw; go_simp; try with_reducible rfl)
            try simp only [Act.put, List.setIfInBounds_toArray, List.set_cons_zero, List.set_cons_succ]
            refine wpAnyH_take (i := 20) (oi := { dst := some 37, op := Op.pick (Operand.tmp 26) (Operand.const (Value.bool true)) (Operand.tmp 36), type := 4, pos := "locks.go:70", after := #[{ on := 9, ground := Ground.data }, { on := 19, ground := Ground.data }], guard := none }) (v := ?q319v) rfl (by kernel_rfl) (by kernel_rfl) (by kernel_rfl) (fun _ _ _ h => h) (Or.inl ⟨by rfl, ?q319h⟩) hHeld ?q319r
            case q319h => (intro wq hSw; clear hSw; go_simp; try with_reducible rfl)
            try simp only [Act.put, List.setIfInBounds_toArray, List.set_cons_zero, List.set_cons_succ]
            refine wpAnyH_done (by kernel_rfl) ?_ _
            clear hHeld
            go_wp2_with fail
            go_ret
            exact ⟨by rw [HX.out]; rfl, HBw.out _ (HS62.out).old⟩
          · have dmo : decide (x.mode ≤ mo) = false := decide_eq_false hmo
            have HMo2 : Hid (mo < x.mode) := by show _ < _; omega
            clear hNm hmo
            refine wp_region_held_drew (S := fun w' => w'.rangeAt B21 0 (grCells x) ∧ w'.rangeAt w.heap.size 0 (tbCells (.slice a t.held.length cap) (.slice (some ⟨g, off, none⟩) t.wait.length cap2)) ∧ SeenM w' (w.heap.size + 1) i ((t.wait.take i).map Gr.tx)) (by kernel_rfl) (⟨(fun j v hv => by rw [Nat.zero_add]; exact ((HS21.out).drew).at 0 rfl j hv), (HBt.out _ ((HS21.out).drew).old), HSe.out _ ((HS21.out).drew).old⟩) (fun hHeld => ?_)
            refine wpAnyH_take (i := 0) (oi := { dst := some 17, op := Op.load 29 (Operand.tmp 5), type := 29, pos := "locks.go:70", after := #[], guard := none }) rfl (by kernel_rfl) (by kernel_rfl) (by kernel_rfl) (fun _ _ _ h => h) (yieldsIf_load_mid (by rfl) 29 (.tmp 5) rfl B21 (0) rfl (grCells x) _ (fun _ h => h.1) HUG.out rfl (info_gr)) hHeld ?_
            try simp only [Act.put, List.setIfInBounds_toArray, List.set_cons_zero, List.set_cons_succ]
            refine wpAnyH_ready (rs := [1]) (by kernel_rfl) (by simp) ?_
            refine AllReadyH.cons (o := { dst := some 18, op := Op.call { callee := Callee.value (Operand.func 43), args := #[Operand.tmp 17], argTypes := #[29] }, type := 4, pos := "locks.go:70", after := #[{ on := 0, ground := Ground.data }], guard := none }) rfl (fun K hK => ?_) (AllReadyH.nil)
            go_simp
            go_wp2_with (go_at_call 43; refine (HGr.out _).mono ?_; rintro e w61 ⟨rfl, hb⟩)
            have HS61 : Hid (Hp wr [.ob B21 29 (grCells x)] w61) := ((HS21.out).drew).calls hb
            refine hK.out _ _ (⟨(fun j v hv => by rw [Nat.zero_add]; exact (HS61.out).at 0 rfl j hv), (HBt.out _ (HS61.out).old), HSe.out _ (HS61.out).old⟩) (fun hHeld => ?_)
            clear hK K hb
            try simp only [Act.put, List.setIfInBounds_toArray, List.set_cons_zero, List.set_cons_succ]
            refine wpAnyH_take (i := 2) (oi := { dst := some 19, op := Op.unOp UnOp.not 4 (Operand.tmp 18), type := 4, pos := "locks.go:70", after := #[{ on := 1, ground := Ground.data }], guard := none }) (v := .bool false) rfl (by kernel_rfl) (by kernel_rfl) (by kernel_rfl) (fun _ _ _ h => h) (Or.inl ⟨by rfl, ?q402h⟩) hHeld ?q402r
            case q402h => (intro wq hSw; clear hSw; go_simp; try with_reducible rfl)
            try simp only [Act.put, List.setIfInBounds_toArray, List.set_cons_zero, List.set_cons_succ]
            refine wpAnyH_take (i := 3) (oi := { dst := some 20, op := Op.move (Operand.tmp 19), type := 4, pos := "locks.go:70", after := #[{ on := 2, ground := Ground.data }, { on := 1, ground := Ground.chain }], guard := none }) (v := ?q403v) rfl (by kernel_rfl) (by kernel_rfl) (by kernel_rfl) (fun _ _ _ h => h) (Or.inl ⟨by rfl, ?q403h⟩) hHeld ?q403r
            case q403h => (intro wq hSw; clear hSw; go_simp; try with_reducible rfl)
            try simp only [Act.put, List.setIfInBounds_toArray, List.set_cons_zero, List.set_cons_succ]
            refine wpAnyH_take (i := 4) (oi := { dst := some 21, op := Op.move (Operand.tmp 3), type := 63, pos := "locks.go:70", after := #[{ on := 3, ground := Ground.guard }], guard := some (3, false) }) (v := ?q404v) rfl (by kernel_rfl) (by kernel_rfl) (by kernel_rfl) (fun _ _ _ h => h) (Or.inl ⟨by rfl, ?q404h⟩) hHeld ?q404r
            case q404h => (intro wq hSw; clear hSw; go_simp; try with_reducible rfl)
            try simp only [Act.put, List.setIfInBounds_toArray, List.set_cons_zero, List.set_cons_succ]
            refine wpAnyH_take (i := 5) (oi := { dst := some 22, op := Op.fieldAddr 29 (Operand.tmp 5) 0, type := 0, pos := "locks.go:70", after := #[{ on := 3, ground := Ground.guard }], guard := some (3, false) }) (v := ?q405v) rfl (by kernel_rfl) (by kernel_rfl) (by kernel_rfl) (fun _ _ _ h => h) (Or.inl ⟨by rfl, ?q405h⟩) hHeld ?q405r
            case q405h => (intro wq hSw; clear hSw; go_simp; try with_reducible rfl)
            try simp only [Act.put, List.setIfInBounds_toArray, List.set_cons_zero, List.set_cons_succ]
            refine wpAnyH_take (i := 6) (oi := { dst := some 23, op := Op.load 3 (Operand.tmp 22), type := 3, pos := "locks.go:70", after := #[{ on := 5, ground := Ground.data }, { on := 3, ground := Ground.guard }], guard := some (3, false) }) (v := .int .i64 x.tx) rfl (by kernel_rfl) (by kernel_rfl) (by kernel_rfl) (fun _ _ _ h => h) (Or.inl ⟨by rfl, ?q406h⟩) hHeld ?q406r
            case q406h => (intro wq hSw; have lq := (hSw.1) 0 (.int .i64 x.tx) rfl; simp only [Nat.zero_add] at lq; clear hSw; go_simp; try with_reducible rfl)
            try simp only [Act.put, List.setIfInBounds_toArray, List.set_cons_zero, List.set_cons_succ]
            refine wpAnyH_take (i := 7) (oi := { dst := some 24, op := Op.lookup 63 (Operand.tmp 21) (Operand.tmp 23) false, type := 4, pos := "locks.go:70", after := #[{ on := 4, ground := Ground.data }, { on := 6, ground := Ground.data }, { on := 3, ground := Ground.guard }], guard := some (3, false) }) (v := .bool false) rfl (by kernel_rfl) (by kernel_rfl) (by kernel_rfl) (fun _ _ _ h => h) (Or.inl ⟨by rfl, ?q407h⟩) hHeld ?q407r
            case q407h => (intro wq hSw; have lq := seen_look hSw.2.2 HGx.out.tx HMem.out; clear hSw; go_simp; try with_reducible rfl)
            try simp only [Act.put, List.setIfInBounds_toArray, List.set_cons_zero, List.set_cons_succ]
            refine wpAnyH_take (i := 8) (oi := { dst := some 25, op := Op.pick (Operand.tmp 20) (Operand.const (Value.bool true)) (Operand.tmp 24), type := 4, pos := "locks.go:70", after := #[{ on := 3, ground := Ground.data }, { on := 7, ground := Ground.data }], guard := none }) (v := ?q408v) rfl (by kernel_rfl) (by kernel_rfl) (by kernel_rfl) (fun _ _ _ h => h) (Or.inl ⟨by rfl, ?q408h⟩) hHeld ?q408r
            case q408h => (intro wq hSw; clear hSw; go_simp; try with_reducible rfl)
            try simp only [Act.put, List.setIfInBounds_toArray, List.set_cons_zero, List.set_cons_succ]
            refine wpAnyH_take (i := 9) (oi := { dst := some 26, op := Op.move (Operand.tmp 25), type := 4, pos := "locks.go:70", after := #[{ on := 8, ground := Ground.data }, { on := 3, ground := Ground.chain }], guard := none }) (v := ?q409v) rfl (by kernel_rfl) (by kernel_rfl) (by kernel_rfl) (fun _ _ _ h => h) (Or.inl ⟨by rfl, ?q409h⟩) hHeld ?q409r
            case q409h => (intro wq hSw; clear hSw; go_simp; try with_reducible rfl)
            try simp only [Act.put, List.setIfInBounds_toArray, List.set_cons_zero, List.set_cons_succ]
            refine wpAnyH_take (i := 10) (oi := { dst := some 27, op := Op.fieldAddr 25 (Operand.tmp 1) 0, type := 0, pos := "locks.go:70", after := #[{ on := 9, ground := Ground.guard }], guard := some (9, false) }) (v := ?q410v) rfl (by kernel_rfl) (by kernel_rfl) (by kernel_rfl) (fun _ _ _ h => h) (Or.inl ⟨by rfl, ?q410h⟩) hHeld ?q410r
            case q410h => (intro wq hSw; clear hSw; go_simp; try with_reducible rfl)
            try simp only [Act.put, List.setIfInBounds_toArray, List.set_cons_zero, List.set_cons_succ]
            refine wpAnyH_take (i := 11) (oi := { dst := some 28, op := Op.load 23 (Operand.tmp 27), type := 23, pos := "locks.go:70", after := #[{ on := 10, ground := Ground.data }, { on := 9, ground := Ground.guard }], guard := some (9, false) }) (v := .slice a t.held.length cap) rfl (by kernel_rfl) (by kernel_rfl) (by kernel_rfl) (fun _ _ _ h => h) (Or.inl ⟨by rfl, ?q411h⟩) hHeld ?q411r
            case q411h => (intro wq hSw; have lq := (hSw.2.1) 0 (.slice a t.held.length cap) rfl; simp only [Nat.zero_add] at lq; clear hSw; go_simp; try with_reducible rfl)
            try simp only [Act.put, List.setIfInBounds_toArray, List.set_cons_zero, List.set_cons_succ]
            refine wpAnyH_take (i := 12) (oi := { dst := some 29, op := Op.fieldAddr 29 (Operand.tmp 5) 0, type := 0, pos := "locks.go:70", after := #[{ on := 9, ground := Ground.guard }], guard := some (9, false) }) (v := ?q412v) rfl (by kernel_rfl) (by kernel_rfl) (by kernel_rfl) (fun _ _ _ h => h) (Or.inl ⟨by rfl, ?q412h⟩) hHeld ?q412r
            case q412h => (intro wq hSw; clear hSw; go_simp; try with_reducible rfl)
            try simp only [Act.put, List.setIfInBounds_toArray, List.set_cons_zero, List.set_cons_succ]
            refine wpAnyH_take (i := 13) (oi := { dst := some 30, op := Op.load 3 (Operand.tmp 29), type := 3, pos := "locks.go:70", after := #[{ on := 12, ground := Ground.data }, { on := 9, ground := Ground.guard }], guard := some (9, false) }) (v := .int .i64 x.tx) rfl (by kernel_rfl) (by kernel_rfl) (by kernel_rfl) (fun _ _ _ h => h) (Or.inl ⟨by rfl, ?q413h⟩) hHeld ?q413r
            case q413h => (intro wq hSw; have lq := (hSw.1) 0 (.int .i64 x.tx) rfl; simp only [Nat.zero_add] at lq; clear hSw; go_simp; try with_reducible rfl)
            try simp only [Act.put, List.setIfInBounds_toArray, List.set_cons_zero, List.set_cons_succ]
            refine wpAnyH_take (i := 14) (oi := { dst := some 31, op := Op.fieldAddr 29 (Operand.tmp 5) 1, type := 0, pos := "locks.go:70", after := #[{ on := 9, ground := Ground.guard }], guard := some (9, false) }) (v := ?q414v) rfl (by kernel_rfl) (by kernel_rfl) (by kernel_rfl) (fun _ _ _ h => h) (Or.inl ⟨by rfl, ?q414h⟩) hHeld ?q414r
            case q414h => (intro wq hSw; clear hSw; go_simp; try with_reducible rfl)
            try simp only [Act.put, List.setIfInBounds_toArray, List.set_cons_zero, List.set_cons_succ]
            refine wpAnyH_take (i := 15) (oi := { dst := some 32, op := Op.load 27 (Operand.tmp 31), type := 27, pos := "locks.go:70", after := #[{ on := 14, ground := Ground.data }, { on := 9, ground := Ground.guard }], guard := some (9, false) }) rfl (by kernel_rfl) (by kernel_rfl) (by kernel_rfl) (fun _ _ _ h => h) (yieldsIf_load_mid (by rfl) 27 (.tmp 31) rfl B21 (1) rfl (lkCells x.lock) _ (fun _ h => range_part (h.1) (mid_lk x)) HUK.out rfl (info_lk)) hHeld ?_
            try simp only [Act.put, List.setIfInBounds_toArray, List.set_cons_zero, List.set_cons_succ]
            refine wpAnyH_take (i := 17) (oi := { dst := some 34, op := Op.fieldAddr 29 (Operand.tmp 5) 2, type := 0, pos := "locks.go:70", after := #[{ on := 9, ground := Ground.guard }], guard := some (9, false) }) (v := ?q416v) rfl (by kernel_rfl) (by kernel_rfl) (by kernel_rfl) (fun _ _ _ h => h) (Or.inl ⟨by rfl, ?q416h⟩) hHeld ?q416r
            case q416h => (intro wq hSw; clear hSw; go_simp; try with_reducible rfl)
            try simp only [Act.put, List.setIfInBounds_toArray, List.set_cons_zero, List.set_cons_succ]
            refine wpAnyH_take (i := 18) (oi := { dst := some 35, op := Op.load 3 (Operand.tmp 34), type := 3, pos := "locks.go:70", after := #[{ on := 17, ground := Ground.data }, { on := 9, ground := Ground.guard }], guard := some (9, false) }) (v := .int .i64 x.mode) rfl (by kernel_rfl) (by kernel_rfl) (by kernel_rfl) (fun _ _ _ h => h) (Or.inl ⟨by rfl, ?q417h⟩) hHeld ?q417r
            case q417h => (intro wq hSw; have lq := (hSw.1) 3 (.int .i64 x.mode) rfl; simp only [Nat.zero_add] at lq; clear hSw; go_simp; try with_reducible rfl)
            try simp only [Act.put, List.setIfInBounds_toArray, List.set_cons_zero, List.set_cons_succ]
            refine wpAnyH_ready (rs := [16]) (by kernel_rfl) (by simp) ?_
            refine AllReadyH.cons (o := { dst := some 33, op := Op.call { callee := Callee.value (Operand.func 44), args := #[Operand.tmp 28, Operand.tmp 30, Operand.tmp 32], argTypes := #[23, 3, 27] }, type := 3, pos := "locks.go:70", after := #[{ on := 11, ground := Ground.data }, { on := 13, ground := Ground.data }, { on := 15, ground := Ground.data }, { on := 9, ground := Ground.chain }, { on := 9, ground := Ground.guard }], guard := some (9, false) }) rfl (fun K hK => ?_) (AllReadyH.nil)
            go_simp
            go_wp2_with (go_at_call 44; refine (HMx.out _ (HBw.out _ (HS61.out).old)).mono ?_; rintro e w62 ⟨rfl, hb⟩)
            have HS62 : Hid (Hp wr [.ob B21 29 (grCells x)] w62) := (HS61.out).calls hb
            refine hK.out _ _ (⟨(fun j v hv => by rw [Nat.zero_add]; exact (HS62.out).at 0 rfl j hv), (HBt.out _ (HS62.out).old), HSe.out _ (HS62.out).old⟩) (fun hHeld => ?_)
            clear hK K hb
            try simp only [Act.put, List.setIfInBounds_toArray, List.set_cons_zero, List.set_cons_succ]
            refine wpAnyH_take (i := 19) (oi := { dst := some 36, op := Op.binOp BinOp.geq 3 (Operand.tmp 33) (Operand.tmp 35) 3, type := 4, pos := "locks.go:70", after := #[{ on := 16, ground := Ground.data }, { on := 18, ground := Ground.data }, { on := 9, ground := Ground.guard }], guard := some (9, false) }) (v := .bool false) rfl (by kernel_rfl) (by kernel_rfl) (by kernel_rfl) (fun _ _ _ h => h) (Or.inl ⟨by rfl, ?q418h⟩) hHeld ?q418r
            case q418h => (intro wq hSw; clear hSw; go_simp; try with_reducible rfl)
            try simp only [Act.put, List.setIfInBounds_toArray, List.set_cons_zero, List.set_cons_succ]
            refine wpAnyH_take (i := 20) (oi := { dst := some 37, op := Op.pick (Operand.tmp 26) (Operand.const (Value.bool true)) (Operand.tmp 36), type := 4, pos := "locks.go:70", after := #[{ on := 9, ground := Ground.data }, { on := 19, ground := Ground.data }], guard := none }) (v := ?q419v) rfl (by kernel_rfl) (by kernel_rfl) (by kernel_rfl) (fun _ _ _ h => h) (Or.inl ⟨by rfl, ?q419h⟩) hHeld ?q419r
            case q419h => (intro wq hSw; clear hSw; go_simp; try with_reducible rfl)
            try simp only [Act.put, List.setIfInBounds_toArray, List.set_cons_zero, List.set_cons_succ]
            refine wpAnyH_done (by kernel_rfl) ?_ _
            clear hHeld
            have xt : w62.cell? ⟨B21, 0, none⟩ = some (.int .i64 x.tx) := HS62.out.at 0 rfl 0 rfl
            have HSn := Lib.hid (HSe.out _ HS62.out.old)
            go_wp2_with (first | ((with_reducible refine wpList_store_seen (.tmp 38) (.tmp 40) HSn.out HIm.out HGx.out.tx ?_ ?_ ?_); (exact rfl); (exact rfl)))
            intro w90 hsn hgn
            have HF := Lib.hid (HQ.out.next HXi.out HS62.out.old hsn hgn)
            clear hsn hgn xt
            go_wp2_with fail
            go_roundw
            case rel => exact ⟨i + 1, HLt.out, by go_num, by rw [lk_take_snoc HXi.out]; exact wait_snoc HH.out HOk1.out (by rw [HMe.out]; exact HMo2.out) (fun y hy e => HM1.out (List.mem_map.2 ⟨y, hy, e⟩)), HF.out⟩
            case measure => simp [intOf]; try (have := HLt.out; omega)
    · obtain rfl : i = t.wait.length := by omega
      have HX := Lib.hid (HYes.out (by have := HH.out; rwa [List.take_length] at this))
      clear hlt hi HH
      go_wp2_with fail
      go_ret
      exact ⟨by rw [HX.out]; rfl, HQ.out.old⟩
end Go.Proofs.Ytooaldglgkjjgaa
/- the program's Valid, Mode, Waiting (locks) -/
namespace Go.Proofs.Ytooaldglgkjjgaa
open Go.RowKit
set_option maxRecDepth 20000
set_option linter.unusedSimpArgs false
set_option linter.unusedVariables false

theorem ok_parts (t : Tb) : tbOkB t = (decide (t.held.length + t.wait.length ≤ 1024) && (heldB t.held && waitB t.held t.wait)) := by
  rw [Bool.eq_iff_iff, tbOkB_iff, Bool.and_eq_true, Bool.and_eq_true, decide_eq_true_eq, heldB_iff, waitB_iff]
  exact ⟨fun h => ⟨h.few, h.tin.held, h.tin.wait⟩, fun h => ⟨h.1, ⟨h.2.1, h.2.2⟩⟩⟩
set_option maxHeartbeats 4000000 in
theorem plkvalid_any {h v : Value} {t : Tb} {R : List Rng} (w : World) (ht : TbRd h v t R) (hR : RdIn w R) (hg : GoodTb t) :
    Calls Try.prog 29 #[.agg (tbCells h v).toArray] w fun e w' => e = .returned (.bool (tbOkB t)) ∧ Below w.heap.size w w' := by
  obtain ⟨a, cap, rfl, hnc, hcm⟩ := ht.1.shape
  obtain ⟨a2, cap2, rfl, hnc2, hcm2⟩ := ht.2.shape
  have HSz : Hid (∀ W, Calls Try.prog 45 #[.agg (tbCells (.slice a t.held.length cap) (.slice a2 t.wait.length cap2)).toArray] W fun e w' => e = .returned (.int .i64 ((t.held.length : Int) + (t.wait.length : Int))) ∧ Below W.heap.size W w') := fun W => size_any W ht hg
  have HHd : Hid (∀ W, Below w.heap.size w W → Calls Try.prog 55 #[.slice a t.held.length cap] W fun e w' => e = .returned (.bool (heldB t.held)) ∧ Below W.heap.size W w') := fun W hb => validHeld_any t.held _ R W ht.1 (hR.below hb) hg.held hg.few.1
  have HWt : Hid (heldB t.held = true → ∀ W, Below w.heap.size w W → Calls Try.prog 56 #[.agg (tbCells (.slice a t.held.length cap) (.slice a2 t.wait.length cap2)).toArray] W fun e w' => e = .returned (.bool (waitB t.held t.wait)) ∧ Below W.heap.size W w') := fun hh W hb => validWaiting_any W ht (hR.below hb) hg (heldB_iff.1 hh)
  have HV := Lib.hid (ok_parts t)
  clear ht hR hg
  obtain ⟨fs, hu⟩ := under_tb
  have HUT := Lib.hid hu
  clear hu
  have h1 := (Hp.start w).put 25 (tbCells (.slice a t.held.length cap) (.slice a2 t.wait.length cap2))
  have HS0 : Hid (Hp w [.ob w.heap.size 25 (tbCells (.slice a t.held.length cap) (.slice a2 t.wait.length cap2))] (w.alloc (.cells (tbCells (.slice a t.held.length cap) (.slice a2 t.wait.length cap2)).toArray 25))) := h1
  clear h1
  obtain ⟨ok, hok⟩ : ∃ ok, tbOkB t = ok := ⟨_, rfl⟩
  rw [hok] at HV ⊢
  clear hok
  generalize heldB t.held = hd at *
  generalize waitB t.held t.wait = wt at *
  go_enter Try.func29, Try.ntmps29
  go_upto_region 1 with (fail)
  generalize (w.alloc (.cells (tbCells (.slice a t.held.length cap) (.slice a2 t.wait.length cap2)).toArray 25)) = w1 at *
  go_wp2_with (first | ((with_reducible refine wpList_load_ob 25 (.tmp 1) w.heap.size (tbCells (.slice a t.held.length cap) (.slice a2 t.wait.length cap2)) 25 HUT.out ?_ ?_ ?_ ?_ ?_); (exact rfl); (exact HS0.out.get 0 rfl); (exact rfl); (exact info_tb); simp only [Act.put, List.setIfInBounds_toArray, List.set_cons_zero, List.set_cons_succ]) | ((with_reducible refine wpList_load_ob_w 25 (.tmp 1) w.heap.size (tbCells (.slice a t.held.length cap) (.slice a2 t.wait.length cap2)) 25 HUT.out ?_ ?_ ?_ ?_ ?_ ?_); (exact rfl); (exact rfl); (exact HS0.out.get 0 rfl); (exact rfl); (exact info_tb); simp only [Act.put, List.setIfInBounds_toArray, List.set_cons_zero, List.set_cons_succ]))
  refine (HSz.out _).mono ?_
  rintro e w2 ⟨rfl, hb⟩
  have HS1 := Lib.hid (HS0.out.calls hb)
  clear HS0 hb HSz
  by_cases hle : t.held.length + t.wait.length ≤ 1024
  · have hle' : ((t.held.length : Int) + (t.wait.length : Int)) ≤ 1024 := by omega
    have HV2 : Hid (ok = (hd && wt)) := Lib.hid (by rw [HV.out, decide_eq_true hle]; rfl)
    clear hle HV
    have b0 : w2.cell? ⟨w.heap.size, 0, none⟩ = some (.slice a t.held.length cap) := HS1.out.at 0 rfl 0 rfl
    have b1 : w2.cell? ⟨w.heap.size, 1, none⟩ = some (.slice a2 t.wait.length cap2) := HS1.out.at 0 rfl 1 rfl
    go_wp2_with fail
    refine (HHd.out _ HS1.out.old).mono ?_
    rintro e w3 ⟨rfl, hb⟩
    have HS2 := Lib.hid (HS1.out.calls hb)
    clear b0 b1 HS1 hb HHd
    cases hd
    · have HX : Hid (ok = false) := Lib.hid (by rw [HV2.out]; rfl)
      go_wp2_with fail
      go_ret
      exact ⟨by rw [HX.out]; rfl, HS2.out.old⟩
    · have HX : Hid (ok = wt) := Lib.hid (by rw [HV2.out]; rfl)
      have HWu := Lib.hid (HWt.out rfl)
      clear HWt HV2
      go_wp2_with (first | ((with_reducible refine wpList_load_ob 25 (.tmp 1) w.heap.size (tbCells (.slice a t.held.length cap) (.slice a2 t.wait.length cap2)) 25 HUT.out ?_ ?_ ?_ ?_ ?_); (exact rfl); (exact HS2.out.get 0 rfl); (exact rfl); (exact info_tb); simp only [Act.put, List.setIfInBounds_toArray, List.set_cons_zero, List.set_cons_succ]) | ((with_reducible refine wpList_load_ob_w 25 (.tmp 1) w.heap.size (tbCells (.slice a t.held.length cap) (.slice a2 t.wait.length cap2)) 25 HUT.out ?_ ?_ ?_ ?_ ?_ ?_); (exact rfl); (exact rfl); (exact HS2.out.get 0 rfl); (exact rfl); (exact info_tb); simp only [Act.put, List.setIfInBounds_toArray, List.set_cons_zero, List.set_cons_succ]))
      refine (HWu.out _ HS2.out.old).mono ?_
      rintro e w4 ⟨rfl, hb⟩
      have HS3 := Lib.hid (HS2.out.calls hb)
      clear HS2 hb HWu
      go_wp2_with fail
      go_ret
      exact ⟨by rw [HX.out]; rfl, HS3.out.old⟩
  · have hle' : ¬ ((t.held.length : Int) + (t.wait.length : Int)) ≤ 1024 := by omega
    have HX : Hid (ok = false) := Lib.hid (by rw [HV.out, decide_eq_false hle]; rfl)
    clear hle HV
    go_wp2_with fail
    go_ret
    exact ⟨by rw [HX.out]; rfl, HS1.out.old⟩
end Go.Proofs.Ytooaldglgkjjgaa
/- what the program makes to find grants; what a transaction waits for; where a request goes (locks) -/
namespace Go.Proofs.Ytooaldglgkjjgaa
open Go.RowKit
set_option maxRecDepth 20000
set_option linter.unusedSimpArgs false
set_option linter.unusedVariables false

def FnPost (g : Nat) (cs : List Value) (w : World) (e : Ending) (w' : World) : Prop :=
  ∃ b, e = .returned (.func (.func g) #[] #[.pointer (some ⟨b, 0, none⟩)]) ∧ RdIn w' [(b, 0, cs)] ∧ w.heap.size ≤ b ∧ Below w.heap.size w w'
theorem rd_new {w : World} {t : TypeId} {cs : List Value} : RdIn (w.alloc (.cells cs.toArray t)) [(w.heap.size, 0, cs)] := fun r hr => by
  obtain rfl := List.mem_singleton.1 hr
  refine ⟨by simp, fun j u hu => ?_⟩
  rw [cell_of_row _ _ _ _ _ _ (heap_alloc_last w _), List.getElem?_toArray, Nat.zero_add]
  exact hu
theorem of_any (tx : Int) (w : World) : Calls Try.prog 40 #[.int .i64 tx] w (FnPost 69 [.int .i64 tx] w) := by
  have HE : Hid (FnPost 69 [.int .i64 tx] w (.returned (.func (.func 69) #[] #[.pointer (some ⟨w.heap.size, 0, none⟩)])) (w.alloc (.cells [Value.int .i64 tx].toArray 3))) := ⟨_, rfl, rd_new, Nat.le_refl _, (Below.refl _ _).alloc (Nat.le_refl _) _⟩
  go_enter Try.func40, Try.ntmps40
  go_wp2
  go_ret
  exact HE.out
theorem against_any (g : Gr) (w : World) : Calls Try.prog 66 #[.agg (grCells g).toArray] w (FnPost 90 (grCells g) w) := by
  have HE : Hid (FnPost 90 (grCells g) w (.returned (.func (.func 90) #[] #[.pointer (some ⟨w.heap.size, 0, none⟩)])) (w.alloc (.cells (grCells g).toArray 29))) := ⟨_, rfl, rd_new, Nat.le_refl _, (Below.refl _ _).alloc (Nat.le_refl _) _⟩
  go_enter Try.func66, Try.ntmps66
  go_wp2
  go_ret
  exact HE.out
end Go.Proofs.Ytooaldglgkjjgaa
/- the program's waiting and Waiting (locks) -/
namespace Go.Proofs.Ytooaldglgkjjgaa
open Go.RowKit
set_option maxRecDepth 20000
set_option linter.unusedSimpArgs false
set_option linter.unusedVariables false

theorem idxR_neg {α : Type} {p : α → Bool} {l : List α} (h : idxR p l = -1) : l.all (fun x => !p x) = true := by
  unfold idxR at h
  cases hf : l.findIdx? p with
  | none =>
    rw [List.findIdx?_eq_none_iff] at hf
    exact List.all_eq_true.2 (fun x hx => by simpa using hf x hx)
  | some i => rw [hf] at h; simp at h
theorem idxR_pos {α : Type} {p : α → Bool} {l : List α} (h : ¬ idxR p l = -1) : ∃ k, ∃ hk : k < l.length, idxR p l = (k : Int) ∧ (l.take k).all (fun x => !p x) = true ∧ p l[k] = true := by
  unfold idxR at h ⊢
  cases hf : l.findIdx? p with
  | none => rw [hf] at h; exact absurd rfl h
  | some i =>
    have hf' := List.findIdx?_eq_some_iff_getElem.1 hf
    obtain ⟨hi, hx, hb⟩ := hf'
    refine ⟨i, hi, rfl, List.all_eq_true.2 (fun x hx => ?_), hx⟩
    obtain ⟨j, hj, rfl⟩ := List.mem_take_iff_getElem.1 hx
    simpa using hb j (by omega)
theorem wfind_idx (l : List Gr) (tx : Int) : (idxR (fun x : Gr => decide (x.tx = tx)) l = -1 ∧ wfind l tx = none) ∨ ∃ (k : Nat) (x : Gr), k < l.length ∧ l[k]? = some x ∧ idxR (fun x : Gr => decide (x.tx = tx)) l = (k : Int) ∧ wfind l tx = some x := by
  by_cases h : idxR (fun x : Gr => decide (x.tx = tx)) l = -1
  · refine .inl ⟨h, wfind_none_of (fun x hx => ?_)⟩
    have := List.all_eq_true.1 (idxR_neg h) x hx
    simpa using this
  · obtain ⟨k, hk, e, ha, hx⟩ := idxR_pos h
    refine .inr ⟨k, l[k], hk, List.getElem?_eq_getElem hk, e, wfind_first (fun q hq z hz => ?_) (List.getElem?_eq_getElem hk) (by simpa using hx)⟩
    have hm : z ∈ l.take k := by
      obtain ⟨h1, rfl⟩ := List.getElem?_eq_some_iff.1 hz
      exact List.mem_take_iff_getElem.2 ⟨q, by omega, rfl⟩
    have := List.all_eq_true.1 ha z hm
    simpa using this
set_option maxHeartbeats 8000000 in
theorem pwaiting_any {h v : Value} {t : Tb} {R : List Rng} (tx : Int) (w : World) (ht : TbRd h v t R) (hR : RdIn w R) (hg : GoodTb t) :
    Calls Try.prog 42 #[.agg (tbCells h v).toArray, .int .i64 tx] w fun e w' => e = .returned (.tuple #[.agg (grCells ((wfind t.wait tx).getD grNil)).toArray, .bool (wfind t.wait tx).isSome]) ∧ Below w.heap.size w w' := by
  obtain ⟨a, cap, rfl, hnc, hcm⟩ := ht.1.shape
  obtain ⟨a2, cap2, rfl, hnc2, hcm2⟩ := ht.2.shape
  obtain ⟨_, _, e2, _, _, hg0⟩ := SlRd.open ht.2 hR
  cases e2
  have HIx : Hid (∀ b W, Below w.heap.size w W → RdIn W [(b, 0, [.int .i64 tx])] → Calls Try.prog 59 #[.slice a2 t.wait.length cap2, .func (.func 69) #[] #[.pointer (some ⟨b, 0, none⟩)]] W fun e w' => e = .returned (.int .i64 (idxR (fun x : Gr => decide (x.tx = tx)) t.wait)) ∧ Below W.heap.size W w') := fun b W hb hr => idxGr_any _ _ _ t.wait _ R W eg_of ((of_at tx b t.wait).fn hr) ht.2 (hR.below hb) (by have := hg.few; omega)
  have HNw : Hid ((t.wait.length : Int) ≤ 100000) := Lib.hid (by have := hg.few; omega)
  have HWf := Lib.hid (wfind_idx t.wait tx)
  have h1 := (((Hp.start w).put 25 (tbCells (.slice a t.held.length cap) (.slice a2 t.wait.length cap2))).put 29 (grCells grNil))
  simp only [World.size_alloc, List.nil_append, List.cons_append] at h1
  have HS0 : Hid (Hp w [.ob w.heap.size 25 (tbCells (.slice a t.held.length cap) (.slice a2 t.wait.length cap2)), .ob (w.heap.size + 1) 29 (grCells grNil)] ((w.alloc (.cells (tbCells (.slice a t.held.length cap) (.slice a2 t.wait.length cap2)).toArray 25)).alloc (.cells #[.int .i64 0, .int .i64 0, .int .i64 0, .int .i64 0] 29))) := h1
  clear h1 ht hR hg hnc hcm hnc2 hcm2
  obtain ⟨fsHUG, huHUG⟩ := under_gr
  have HUG := Lib.hid huHUG
  clear huHUG
  obtain ⟨fsHUT, huHUT⟩ := under_tb
  have HUT := Lib.hid huHUT
  clear huHUT
  generalize idxR (fun x : Gr => decide (x.tx = tx)) t.wait = ix at *
  obtain ⟨wf, hwf⟩ : ∃ wf, wfind t.wait tx = wf := ⟨_, rfl⟩
  rw [hwf] at HWf ⊢
  clear hwf
  go_enter Try.func42, Try.ntmps42
  go_upto_region 1 with (fail)
  generalize ((w.alloc (.cells (tbCells (.slice a t.held.length cap) (.slice a2 t.wait.length cap2)).toArray 25)).alloc (.cells #[.int .i64 0, .int .i64 0, .int .i64 0, .int .i64 0] 29)) = w1 at *
  generalize w.heap.size + 1 = b3 at *
  refine wp_region_held_drew (S := fun w' => w'.rangeAt w.heap.size 0 (tbCells (.slice a t.held.length cap) (.slice a2 t.wait.length cap2))) (by kernel_rfl) ((fun j v hv => by rw [Nat.zero_add]; exact ((HS0.out).drew).at 0 rfl j hv)) (fun hHeld => ?_)
  refine wpAnyH_take (i := 0) (oi := { dst := some 7, op := Op.fieldAddr 25 (Operand.tmp 2) 1, type := 0, pos := "locks.go:96", after := #[], guard := none }) (v := ?q1v) rfl (by kernel_rfl) (by kernel_rfl) (by kernel_rfl) (fun _ _ _ h => h) (Or.inl ⟨by rfl, ?q1h⟩) hHeld ?q1r
  case q1h => (intro wq hSw; clear hSw; go_simp; try with_reducible rfl)
  try simp only [Act.put, List.setIfInBounds_toArray, List.set_cons_zero, List.set_cons_succ]
  refine wpAnyH_take (i := 1) (oi := { dst := some 8, op := Op.load 23 (Operand.tmp 7), type := 23, pos := "locks.go:96", after := #[{ on := 0, ground := Ground.data }], guard := none }) (v := .slice a2 t.wait.length cap2) rfl (by kernel_rfl) (by kernel_rfl) (by kernel_rfl) (fun _ _ _ h => h) (Or.inl ⟨by rfl, ?q2h⟩) hHeld ?q2r
  case q2h => (intro wq hSw; have lq := (hSw) 1 (.slice a2 t.wait.length cap2) rfl; simp only [Nat.zero_add] at lq; clear hSw; go_simp; try with_reducible rfl)
  try simp only [Act.put, List.setIfInBounds_toArray, List.set_cons_zero, List.set_cons_succ]
  refine wpAnyH_take (i := 2) (oi := { dst := some 9, op := Op.move (Operand.tmp 1), type := 3, pos := "locks.go:96", after := #[], guard := none }) (v := ?q3v) rfl (by kernel_rfl) (by kernel_rfl) (by kernel_rfl) (fun _ _ _ h => h) (Or.inl ⟨by rfl, ?q3h⟩) hHeld ?q3r
  case q3h => (intro wq hSw; clear hSw; go_simp; try with_reducible rfl)
  try simp only [Act.put, List.setIfInBounds_toArray, List.set_cons_zero, List.set_cons_succ]
  refine wpAnyH_ready (rs := [3]) (by kernel_rfl) (by simp) ?_
  refine AllReadyH.cons (o := { dst := some 10, op := Op.call { callee := Callee.value (Operand.func 40), args := #[Operand.tmp 9], argTypes := #[3] }, type := 69, pos := "locks.go:96", after := #[{ on := 2, ground := Ground.data }], guard := none }) rfl (fun K hK => ?_) (AllReadyH.nil)
  go_simp
  go_wp2_with (go_at_call 40; refine (of_any tx _).mono ?_; rintro e w21 ⟨bf, rfl, hin, hnw, hb⟩)
  have HS21 : Hid (Hp w [.ob (w.heap.size) 25 (tbCells (.slice a t.held.length cap) (.slice a2 t.wait.length cap2)), .ob b3 29 (grCells grNil), .rd [(bf, 0, [.int .i64 tx])]] w21) := ((HS0.out).drew).addrd hb [(bf, 0, [.int .i64 tx])] hin (fun r hr => .inl (by obtain rfl := List.mem_singleton.1 hr; exact hnw))
  refine hK.out _ _ ((fun j v hv => by rw [Nat.zero_add]; exact (HS21.out).at 0 rfl j hv)) (fun hHeld => ?_)
  clear hK K hb hin hnw
  try simp only [Act.put, List.setIfInBounds_toArray, List.set_cons_zero, List.set_cons_succ]
  refine wpAnyH_ready (rs := [4]) (by kernel_rfl) (by simp) ?_
  refine AllReadyH.cons (o := { dst := some 11, op := Op.call { callee := Callee.value (Operand.func 59), args := #[Operand.tmp 8, Operand.tmp 10], argTypes := #[23, 69] }, type := 3, pos := "locks.go:96", after := #[{ on := 1, ground := Ground.data }, { on := 3, ground := Ground.data }, { on := 3, ground := Ground.chain }], guard := none }) rfl (fun K hK => ?_) (AllReadyH.nil)
  go_simp
  go_wp2_with (go_at_call 59; refine (HIx.out _ _ (HS21.out).old ((HS21.out).reads 2 rfl)).mono ?_; rintro e w22 ⟨rfl, hb⟩)
  have HS22 : Hid (Hp w [.ob (w.heap.size) 25 (tbCells (.slice a t.held.length cap) (.slice a2 t.wait.length cap2)), .ob b3 29 (grCells grNil), .rd [(bf, 0, [.int .i64 tx])]] w22) := (HS21.out).calls hb
  refine hK.out _ _ ((fun j v hv => by rw [Nat.zero_add]; exact (HS22.out).at 0 rfl j hv)) (fun hHeld => ?_)
  clear hK K hb
  try simp only [Act.put, List.setIfInBounds_toArray, List.set_cons_zero, List.set_cons_succ]
  refine wpAnyH_take (i := 5) (oi := { dst := some 6, op := Op.assign (Operand.tmp 11), type := 3, pos := "locks.go:96", after := #[{ on := 4, ground := Ground.data }, { on := 4, ground := Ground.chain }, { on := 0, ground := Ground.phase }, { on := 1, ground := Ground.phase }, { on := 2, ground := Ground.phase }, { on := 3, ground := Ground.phase }, { on := 4, ground := Ground.phase }], guard := none }) (v := ?q4v) rfl (by kernel_rfl) (by kernel_rfl) (by kernel_rfl) (fun _ _ _ h => h) (Or.inl ⟨by rfl, ?q4h⟩) hHeld ?q4r
  case q4h => (intro wq hSw; clear hSw; go_simp; try with_reducible rfl)
  try simp only [Act.put, List.setIfInBounds_toArray, List.set_cons_zero, List.set_cons_succ]
  refine wpAnyH_done (by kernel_rfl) ?_ _
  clear hHeld HIx
  have HS23 : Hid (Hp w [.ob (w.heap.size) 25 (tbCells (.slice a t.held.length cap) (.slice a2 t.wait.length cap2)), .ob b3 29 (grCells grNil)] w22) := HS22.out.pull [0, 1] rfl (pull_nd HS22.out.nd [0, 1] rfl (by decide))
  clear HS22
  rcases HWf.out with ⟨hix, hwf⟩ | ⟨k, x, hk, hx, hix, hwf⟩
  · subst hix
    subst hwf
    clear HWf
    go_wp2_with (first | ((with_reducible refine wpList_build_v (d := some 19) 29 (.agg (grCells grNil).toArray) ?_ ?_); (intro W; simp only [List.map_toArray, List.map_cons, List.map_nil]; exact build_gr0 W); simp only [Act.put, List.setIfInBounds_toArray, List.set_cons_zero, List.set_cons_succ]) | ((with_reducible refine wpList_store_ob 29 (.tmp 4) b3 (grCells grNil) (grCells grNil) 29 ?_ ?_ ?_ ?_ ?_ ?_ ?_); (exact rfl); (exact rfl); (exact (HS23.out).get 1 rfl); (exact info_gr); (exact rfl); (exact (oneCell_gr _)); skip))
    have HS24 : Hid (Hp w [.ob (w.heap.size) 25 (tbCells (.slice a t.held.length cap) (.slice a2 t.wait.length cap2)), .ob b3 29 (grCells grNil)] (w22.setRow b3 (grCells grNil).toArray)) := (HS23.out).row 1 rfl (grCells grNil)
    clear HS23
    generalize (w22.setRow b3 (grCells grNil).toArray) = w23 at *
    refine bodyPost_ret (results_ob_tmp Try.results42 _ _ b3 (grCells grNil) 29 _ rfl ((HS24.out).get 1 rfl) HUG.out rfl info_gr) rfl ?_
    exact ⟨rfl, (HS24.out).old⟩
  · obtain ⟨g, off, rfl, hr⟩ := hg0.out (by omega)
    have HRg := Lib.hid hr
    have HXi := Lib.hid hx
    have hk0 : (0 : Int) ≤ (k : Int) := by omega
    have hki : (k : Int) < (t.wait.length : Int) := by omega
    subst hix
    subst hwf
    have b1 : w22.cell? ⟨w.heap.size, 1, none⟩ = some (.slice (some ⟨g, off, none⟩) t.wait.length cap2) := (HS23.out).at 0 rfl 1 rfl
    clear hr hx hk hg0 HWf
    go_wp2_with (first | ((with_reducible refine wpList_load_at 29 (.tmp 17) g ((off + k * 4)) (grCells x) HUG.out ?_ ?_ ?_ ?_ ?_); (exact rfl); (exact (elem_rng (HRg.out _ (HS23.out).old) HXi.out)); (exact rfl); (exact info_gr); simp only [Act.put, List.setIfInBounds_toArray, List.set_cons_zero, List.set_cons_succ]) | ((with_reducible refine wpList_store_ob 29 (.tmp 4) b3 (grCells x) (grCells grNil) 29 ?_ ?_ ?_ ?_ ?_ ?_ ?_); (exact rfl); (exact rfl); (exact (HS23.out).get 1 rfl); (exact info_gr); (exact rfl); (exact (oneCell_gr _)); skip))
    have HS64 : Hid (Hp w [.ob (w.heap.size) 25 (tbCells (.slice a t.held.length cap) (.slice (some ⟨g, off, none⟩) t.wait.length cap2)), .ob b3 29 (grCells x)] (w22.setRow b3 (grCells x).toArray)) := (HS23.out).row 1 rfl (grCells x)
    clear HS23
    generalize (w22.setRow b3 (grCells x).toArray) = w63 at *
    refine bodyPost_ret (results_ob_tmp Try.results42 _ _ b3 (grCells x) 29 _ rfl ((HS64.out).get 1 rfl) HUG.out rfl info_gr) rfl ?_
    exact ⟨rfl, (HS64.out).old⟩
end Go.Proofs.Ytooaldglgkjjgaa
