/- texts of a claim, one after the other: the library's DeleteFunc over numbers, by one that equals a number in memory, the library's BinarySearch in ascending numbers, bits.Mul at one and a small number, the walks of the reference's blanks and New, the library's Repeat of one text, and the program's blanks, the walks of the reference's lists of numbers, the library's Insert of one number -/
import Derived.Test.YtlmbnofkmmehoaaOm4
import Derived.Test.YtlmbnofkmmehoaaOm5
import Derived.Test.YtlmbnofkmmehoaaOm3
import Derived.Test.YtlmbnofkmmehoaaOm2
import Derived.Laws.CopyOwn
import Derived.Lib.AppendZerosOnto
import Derived.Lib.Overlaps
import Derived.Maps.AppendAt
/- the library's DeleteFunc over numbers, by one that equals a number in memory -/
namespace Go.Proofs.Ytlmbnofkmmehoaa
open Go.RowKit
set_option maxRecDepth 20000
set_option linter.unusedSimpArgs false
set_option linter.unusedVariables false

theorem zeroV_int (W : World) : (zeroValue 3).run Try.prog W = .ok (.int .i64 0) W := by kernel_rfl
theorem one_intl (x : Int) : ∀ u ∈ encI x, u.oneCell' = true := by
  intro u hu
  obtain rfl := List.mem_singleton.1 hu
  rfl
theorem enters_put : EntersF 72 := enters_of Try.func72 (by kernel_rfl) rfl
/-- the program's test: is it the number in that variable? -/
theorem putFn (n x : Int) (B : Nat) (W : World) (hc : W.cell? ⟨B, 0, none⟩ = some (.int .i64 n)) :
    Calls Try.prog 72 #[.int .i64 x, .pointer (some ⟨B, 0, none⟩)] W fun e w' => e = .returned (.bool (decide (x = n))) ∧ w' = W := by
  by_cases h : x = n
  · have h1 : (x == n) = true := by simp [h]
    have HD : Hid (decide (x = n) = true) := decide_eq_true h
    clear h
    go_enter Try.func72, Try.ntmps72
    go_wp2
    go_ret
    exact ⟨by rw [HD.out]; rfl, rfl⟩
  · have h1 : (x == n) = false := by rw [beq_eq_false_iff_ne]; exact h
    have HD : Hid (decide (x = n) = false) := decide_eq_false h
    clear h
    go_enter Try.func72, Try.ntmps72
    go_wp2
    go_ret
    exact ⟨by rw [HD.out]; rfl, rfl⟩
set_option maxHeartbeats 4000000 in
theorem idxInt_any (n : Int) (B : Nat) (l : List Int) (v : Value) (R : List Rng) (w : World) (hB : B < w.heap.size) (hc : w.cell? ⟨B, 0, none⟩ = some (.int .i64 n)) (hv : SlRd v 1 l.length (intRow l) R) (hR : RdIn w R) (hl : l.length ≤ 1000) :
    Calls Try.prog 80 #[v, .func (.func 72) #[] #[.pointer (some ⟨B, 0, none⟩)]] w fun e w' => e = .returned (.int .i64 (idxR (fun x => decide (x = n)) l)) ∧ Below w.heap.size w w' := by
  obtain ⟨a, cap, rfl, hnc, hcm, hg⟩ := hv.open hR
  have HC : Hid (l.length ≤ cap ∧ cap ≤ maxLen) := ⟨hnc, hcm⟩
  have HL := Lib.hid hl
  have HCell : Hid (∀ W, Below w.heap.size w W → W.cell? ⟨B, 0, none⟩ = some (.int .i64 n)) := fun W hb => (hb.cell (p := ⟨B, 0, none⟩) hB).trans hc
  have eg := enters_put
  clear hv hR hnc hcm hl hB hc
  unfold EntersF at eg
  go_enter Try.func80, Try.ntmps80
  go_wp2_with fail
  go_loopw [8] (fun i wr => ∃ k : Nat, k ≤ l.length ∧ i = .int .i64 k ∧ (l.take k).all (fun x => !decide (x = n)) = true ∧ Below w.heap.size w wr) (fun i _ => l.length - (intOf i).toNat)
  case atStart => exact ⟨0, by omega, rfl, rfl, Below.refl _ _⟩
  case round =>
    obtain ⟨k, hk, rfl, hh, hb⟩ := hrel
    have HB := Lib.hid hb
    have HH := Lib.hid hh
    clear hb hh
    by_cases hlt : k < l.length
    · obtain ⟨b, off, rfl, hr⟩ := hg.out (by omega)
      obtain ⟨x, hx⟩ : ∃ x, l[k] = x := ⟨_, rfl⟩
      have hcell : wr.cell? ⟨b, off + k, none⟩ = some (.int .i64 x) := by rw [← hx]; exact hr wr HB.out k _ (intRow_at l k hlt)
      have hki : (k : Int) < (l.length : Int) := by omega
      have hk0 : (0 : Int) ≤ (k : Int) := by omega
      have hkm : (k : Int) < 1001 := by have := HL.out; omega
      have hcall := putFn n x B wr (HCell.out wr HB.out)
      have HY : Hid (decide (x = n) = true → idxR (fun x => decide (x = n)) l = (k : Int)) := fun h => idxR_some hlt HH.out (by rw [hx]; exact h)
      have HN : Hid (decide (x = n) = false → (l.take (k + 1)).all (fun x => !decide (x = n)) = true) := fun h => all_take (f := fun x => !decide (x = n)) hlt HH.out (by rw [hx, h]; rfl)
      clear hr hx hg
      obtain ⟨q, hq⟩ : ∃ q, decide (x = n) = q := ⟨_, rfl⟩
      rw [hq] at hcall
      have HQ := Lib.hid hq
      clear hq
      cases q
      · have HX2 := Lib.hid (HN.out HQ.out)
        clear HY HN
        go_wp2_with fail
        refine hcall.mono ?_
        rintro e w2 ⟨rfl, rfl⟩
        go_wp2_with fail
        go_roundw
        case rel => exact ⟨k + 1, by omega, by go_num, HX2.out, HB.out⟩
        case measure => simp [intOf]; omega
      · have HX := Lib.hid (HY.out HQ.out)
        clear HY HN
        go_wp2_with fail
        refine hcall.mono ?_
        rintro e w2 ⟨rfl, rfl⟩
        go_wp2_with fail
        go_ret
        exact ⟨by rw [HX.out]; rfl, HB.out⟩
    · obtain rfl : k = l.length := by omega
      rw [List.take_length] at HH
      have HX := Lib.hid (idxR_none HH.out)
      go_wp2_with fail
      go_ret
      exact ⟨by rw [HX.out]; rfl, HB.out⟩
set_option maxHeartbeats 8000000 in
theorem delInt_row (n : Int) (B : Nat) (l : List Int) (g cap : Nat) (rest : List Value) (w : World) (hBg : B ≠ g) (hc : w.cell? ⟨B, 0, none⟩ = some (.int .i64 n)) (hl : l.length ≤ 1000) (hcap : l.length ≤ cap) (hcm : cap ≤ maxLen)
    (hg : w.heap[g]? = some (.cells (encRow encI l ++ rest).toArray 3 (0, 0))) :
    Calls Try.prog 71 #[.slice (some ⟨g, 0, none⟩) l.length cap, .func (.func 72) #[] #[.pointer (some ⟨B, 0, none⟩)]] w fun e w' => e = .returned (.slice (some ⟨g, 0, none⟩) (l.filter fun x => !decide (x = n)).length cap) ∧
      (∃ m : List Int, (l.filter (fun x => !decide (x = n)) ++ m).length = l.length ∧ w'.heap[g]? = some (.cells (encRow encI (l.filter (fun x => !decide (x = n)) ++ m) ++ rest).toArray 3 (0, 0))) ∧ w.grownBy w' (some g) := by
  have hlt0 : g < w.heap.size := (Array.getElem?_eq_some_iff.1 hg).1
  have hltB : B < w.heap.size := World.block_lt_of_cell? w _ hc
  have HRow : Hid (∀ (W : World) (ys : List Int), W.heap[g]? = some (.cells (encRow encI ys ++ rest).toArray 3 (0, 0)) → ∀ k (h : k < ys.length), W.cell? ⟨g, k, none⟩ = some (.int .i64 ys[k])) := fun W ys hW k h => by
    rw [cell_of_row W g k _ _ _ hW, List.getElem?_toArray]
    have := encRow_at encI_len rest h 0 (.int .i64 ys[k]) rfl
    rw [Nat.mul_one, Nat.add_zero] at this
    exact this
  have HSet : Hid (∀ (W : World) (ys : List Int), W.heap[g]? = some (.cells (encRow encI ys ++ rest).toArray 3 (0, 0)) → ∀ k (h : k < ys.length) x, (W.setCell ⟨g, k, none⟩ (.int .i64 x)).heap[g]? = some (.cells (encRow encI (ys.set k x) ++ rest).toArray 3 (0, 0))) := fun W ys hW k h x => by
    have e : W.setCell ⟨g, k, none⟩ (.int .i64 x) = W.setCells g k (encI x) := rfl
    rw [e, setCells_row hW (by rw [List.length_append, encRow_len encI_len, encI_len]; omega) (one_intl x)]
    have := encRow_set encI_len rest h x
    rw [Nat.mul_one] at this
    rw [this]
    exact setRow_heap _ _ _ _ _ _ hW
  have hIx : Calls Try.prog 80 #[.slice (some ⟨g, 0, none⟩) l.length cap, .func (.func 72) #[] #[.pointer (some ⟨B, 0, none⟩)]] w fun e w' => e = .returned (.int .i64 (idxR (fun x => decide (x = n)) l)) ∧ Below w.heap.size w w' :=
    idxInt_any n B l _ [(g, 0, intRow l)] w hltB hc ⟨_, cap, rfl, by rw [intRow_enc]; exact encRow_len encI_len l, hcap, hcm, fun _ => ⟨g, 0, rfl, List.mem_singleton.2 rfl⟩, fun h => by cases h⟩ (fun r hr => by
      obtain rfl := List.mem_singleton.1 hr
      refine ⟨hlt0, fun j u hj => ?_⟩
      have hj' : (intRow l)[j]? = some u := hj
      rw [intRow_enc] at hj'
      show w.cell? ⟨g, 0 + j, none⟩ = some u
      rw [cell_of_row w g (0 + j) _ _ _ hg, List.getElem?_toArray, Nat.zero_add, List.getElem?_append_left (List.getElem?_eq_some_iff.1 hj').1]
      exact hj') hl
  have HCB : Hid (∀ W, w.grownBy W (some g) → W.cell? ⟨B, 0, none⟩ = some (.int .i64 n)) := fun W h => (World.cell?_of_block (a := ⟨B, 0, none⟩) (h.block B hltB (fun e => hBg (Option.some.inj e)))).trans hc
  have HG0 := Lib.hid hg
  have HC : Hid (l.length ≤ cap ∧ cap ≤ maxLen ∧ l.length ≤ 1000 ∧ g < w.heap.size) := ⟨hcap, hcm, hl, hlt0⟩
  have eg := enters_put
  unfold EntersF at eg
  clear hg hcap hcm hl hlt0 hc hltB hBg
  by_cases hr : idxR (fun x => decide (x = n)) l = -1
  · have hall := idxR_neg hr
    rw [hr] at hIx
    have HF : Hid (l.filter (fun x => !decide (x = n)) = l) := List.filter_eq_self.2 (List.all_eq_true.1 hall)
    clear hr hall
    go_enter Try.func71, Try.ntmps71
    go_wp2_with fail
    refine hIx.mono ?_
    rintro e w2 ⟨rfl, hb⟩
    have HB := Lib.hid hb
    clear hb hIx
    go_wp2_with fail
    go_ret
    refine ⟨by rw [HF.out]; rfl, ⟨[], by rw [HF.out, List.append_nil], ?_⟩, grown_below HB.out⟩
    rw [HF.out, List.append_nil]
    exact (HB.out.block _ HC.out.2.2.2).trans HG0.out
  · obtain ⟨k0, hk0, e0, hall, hx⟩ := idxR_pos hr
    have HK0 := Lib.hid (KeptR.start hk0 hall hx)
    have HK1 := Lib.hid hk0
    rw [e0] at hIx
    clear hr e0 hall hx
    have hk01 : ((k0 : Int) == -1) = false := by rw [beq_eq_false_iff_ne]; omega
    have hk0m : (k0 : Int) < 1001 := by have := HC.out; omega
    clear hk0
    go_enter Try.func71, Try.ntmps71
    go_wp2_with fail
    refine hIx.mono ?_
    rintro e w2 ⟨rfl, hb⟩
    have HB : Hid (w.grownBy w2 (some g) ∧ w2.heap[g]? = some (.cells (encRow encI l ++ rest).toArray 3 (0, 0))) := ⟨grown_below hb, (hb.block _ HC.out.2.2.2).trans HG0.out⟩
    clear hb hIx
    go_wp2_with fail
    go_loopw [5, 6] (fun si sj wr => ∃ (i j : Nat) (ys : List Int), si = .int .i64 i ∧ sj = .int .i64 j ∧ j ≤ l.length ∧ KeptR (fun x => decide (x = n)) l j i ys ∧ w.grownBy wr (some g) ∧ wr.heap[g]? = some (.cells (encRow encI ys ++ rest).toArray 3 (0, 0))) (fun _ sj _ => l.length - (intOf sj).toNat)
    case atStart => exact ⟨k0, k0 + 1, l, rfl, by go_num, HK1.out, HK0.out, HB.out.1, HB.out.2⟩
    case round =>
      clear hk01 hk0m
      obtain ⟨i, j, ys, rfl, rfl, hj, hk, hgb, hgr⟩ := hrel
      have HK := Lib.hid hk
      have HGb := Lib.hid hgb
      have HGr := Lib.hid hgr
      clear hk hgb hgr HB
      by_cases hlt : j < l.length
      · have hji : (j : Int) < (l.length : Int) := by omega
        have hj0 : (0 : Int) ≤ (j : Int) := by omega
        have hjm : (j : Int) < 1000 := by have := HC.out; omega
        have hi0 : (0 : Int) ≤ (i : Int) := by omega
        have hil : (i : Int) < (l.length : Int) := by have := HK.out.lt; omega
        have him : (i : Int) < 1000 := by have := HK.out.lt; omega
        obtain ⟨x, hxe⟩ : ∃ x, l[j] = x := ⟨_, rfl⟩
        have HXe := Lib.hid hxe
        have hylen := HK.out.len
        have hjy : j < ys.length := by omega
        have hiy : i < ys.length := by have := HK.out.lt; omega
        have hcell : wr.cell? ⟨g, j, none⟩ = some (.int .i64 x) := by
          have h := HRow.out wr ys HGr.out j hjy
          rw [HK.out.at hlt, hxe] at h
          exact h
        have hcello : wr.cell? ⟨g, i, none⟩ = some (.int .i64 ys[i]) := HRow.out wr ys HGr.out i hiy
        have hfz : wr.frozen? ⟨g, i, none⟩ = false := frozen_of_row _ _ _ _ _ HGr.out
        have hcall := putFn n x B wr (HCB.out wr HGb.out)
        have HYes := Lib.hid (fun h : decide (x = n) = false => HK.out.keep hlt (by rw [hxe]; exact h))
        have HNo := Lib.hid (fun h : decide (x = n) = true => HK.out.skip hlt (by rw [hxe]; exact h))
        have HSt := Lib.hid (HSet.out wr ys HGr.out i hiy x)
        generalize ys[i] = old at *
        clear hxe hylen hjy hj hiy
        obtain ⟨q, hq⟩ : ∃ q, decide (x = n) = q := ⟨_, rfl⟩
        rw [hq] at hcall
        have HQ := Lib.hid hq
        clear hq
        cases q
        · have HK2 := Lib.hid (HYes.out HQ.out)
          clear HYes HNo
          go_wp2_with fail
          refine hcall.mono ?_
          rintro e w3 ⟨rfl, rfl⟩
          clear hcall
          go_wp2_with fail
          go_roundw
          case rel => exact ⟨i + 1, j + 1, ys.set i x, by go_num, by go_num, by omega, by rw [← HXe.out]; exact (by have h := HK2.out; rw [HXe.out] at h ⊢; exact h), grown_trans HGb.out ⟨rfl, rfl, rfl, by simp [World.setCell], fun k hk hne => Below.heap_setCell _ _ _ _ (fun e => hne (by rw [e]))⟩, HSt.out⟩
          case measure => simp [intOf]; omega
        · have HK2 := Lib.hid (HNo.out HQ.out)
          clear HYes HNo
          go_wp2_with fail
          refine hcall.mono ?_
          rintro e w3 ⟨rfl, rfl⟩
          clear hcall
          go_wp2_with fail
          go_roundw
          case rel => exact ⟨i, j + 1, ys, rfl, by go_num, by omega, HK2.out, HGb.out, HGr.out⟩
          case measure => simp [intOf]; omega
      · obtain rfl : j = l.length := by omega
        have hilt : i < l.length := HK.out.lt
        have hic : ¬ (cap = i) := by have := HC.out; omega
        have hil : (i : Int) ≤ (l.length : Int) := by omega
        have hi0 : (0 : Int) ≤ (i : Int) := by omega
        have hcl0 : (i : Int) ≤ (cap : Int) := by have := HC.out; omega
        have hcl := fun ty c => run_clear_row (t := 24) encI_len (by decide) Try.underlying24 0 (.int .i64 0) rfl zeroV_int wr HGr.out (i := i) (by rw [HK.out.len]; exact hilt) (one_intl _) ty c
        rw [HK.out.len, Nat.mul_one] at hcl
        clear hlt
        go_wp2_with fail
        go_ret
        obtain ⟨h1, h2⟩ := HK.out.done
        refine ⟨by rw [← h2]; rfl, ⟨List.replicate (l.length - i) 0, ?_, ?_⟩, grown_trans HGb.out (grown_setRow _ _ _)⟩
        · rw [List.length_append, ← h2, List.length_replicate]; omega
        · rw [← h1]; exact setRow_heap _ _ _ _ _ _ HGr.out
end Go.Proofs.Ytlmbnofkmmehoaa
/- the library's BinarySearch in ascending numbers -/
namespace Go.Proofs.Ytlmbnofkmmehoaa
open Go.RowKit
set_option maxRecDepth 20000
set_option linter.unusedSimpArgs false
set_option linter.unusedVariables false

set_option maxHeartbeats 4000000 in
theorem less_any (x y : Int) (W : World) : Calls Try.prog 75 #[.int .i64 x, .int .i64 y] W fun e w' => e = .returned (.bool (decide (x < y))) ∧ w' = W := by
  go_enter Try.func75, Try.ntmps75
  go_wp2
  go_ret
  exact ⟨rfl, rfl⟩
/-- where a number belongs in a list -/
structure PosR (t : Int) (l : List Int) (i : Nat) : Prop where
  le : i ≤ l.length
  low : ∀ j (h : j < l.length), j < i → l[j] < t
  high : ∀ j (h : j < l.length), i ≤ j → t ≤ l[j]
theorem pos_exists (t : Int) : ∀ l : List Int, l.Pairwise (· < ·) → ∃ i, PosR t l i
  | [], _ => ⟨0, Nat.le_refl _, fun j h => absurd h (Nat.not_lt_zero _), fun j h => absurd h (Nat.not_lt_zero _)⟩
  | x :: l, hs => by
    rw [List.pairwise_cons] at hs
    by_cases h : t ≤ x
    · refine ⟨0, Nat.zero_le _, fun j _ hj => absurd hj (Nat.not_lt_zero _), fun j hj _ => ?_⟩
      cases j with
      | zero => exact h
      | succ j =>
        have := hs.1 _ (List.getElem_mem (by simpa using hj : j < l.length))
        rw [List.getElem_cons_succ]
        omega
    · obtain ⟨i, h1, h2, h3⟩ := pos_exists t l hs.2
      refine ⟨i + 1, by simpa using h1, fun j hj hji => ?_, fun j hj hij => ?_⟩
      · cases j with
        | zero => show x < t; omega
        | succ j => rw [List.getElem_cons_succ]; exact h2 j (by simpa using hj) (by omega)
      · cases j with
        | zero => omega
        | succ j => rw [List.getElem_cons_succ]; exact h3 j (by simpa using hj) (by omega)
theorem pos_unique {t : Int} {l : List Int} {i j : Nat} (h : PosR t l i) (k : PosR t l j) : i = j := by
  rcases Nat.lt_trichotomy i j with hl | hl | hl
  · have h1 := h.high i (by have := k.le; omega) (Nat.le_refl _)
    have h2 := k.low i (by have := k.le; omega) hl
    omega
  · exact hl
  · have h1 := k.high j (by have := h.le; omega) (Nat.le_refl _)
    have h2 := h.low j (by have := h.le; omega) hl
    omega
set_option maxHeartbeats 4000000 in
theorem binSearch_any (t : Int) (l : List Int) (v : Value) (R : List Rng) (w : World) (hs : l.Pairwise (· < ·)) (hv : SlRd v 1 l.length (intRow l) R) (hR : RdIn w R) (hl : l.length ≤ 1000) :
    Calls Try.prog 63 #[v, .int .i64 t] w fun e w' => ∃ i : Nat, e = .returned (.tuple #[.int .i64 i, .bool (decide (l[i]? = some t))]) ∧ PosR t l i ∧ w' = w := by
  obtain ⟨a, cap, rfl, hnc, hcm, hg⟩ := hv.open hR
  have HC : Hid (l.length ≤ cap ∧ cap ≤ maxLen) := ⟨hnc, hcm⟩
  have HL := Lib.hid hl
  have HS := Lib.hid hs
  clear hv hR hnc hcm hl hs
  go_enter Try.func63, Try.ntmps63
  go_wp2_with fail
  go_loopw [7, 8] (fun si sj wr => ∃ i j : Nat, si = .int .i64 i ∧ sj = .int .i64 j ∧ i ≤ j ∧ j ≤ l.length ∧ (∀ k (h : k < l.length), k < i → l[k] < t) ∧ (∀ k (h : k < l.length), j ≤ k → t ≤ l[k]) ∧ wr = w) (fun si sj _ => (intOf sj).toNat - (intOf si).toNat)
  case atStart => exact ⟨0, l.length, rfl, rfl, by omega, by omega, fun k h hk => absurd hk (Nat.not_lt_zero _), fun k h hk => absurd hk (by omega), rfl⟩
  case round =>
    obtain ⟨i, j, rfl, rfl, hij, hj, hlo, hhi, rfl⟩ := hrel
    have HLo := Lib.hid hlo
    have HHi := Lib.hid hhi
    have HIJ : Hid (i ≤ j ∧ j ≤ l.length) := ⟨hij, hj⟩
    clear hlo hhi
    by_cases hlt : i < j
    · obtain ⟨h, hh⟩ : ∃ h, (i + j) / 2 = h := ⟨_, rfl⟩
      have hih : i ≤ h ∧ h < j := by omega
      have hhl : h < l.length := by omega
      obtain ⟨b, off, rfl, hr⟩ := hg.out (by omega)
      obtain ⟨y, hy⟩ : ∃ y, l[h] = y := ⟨_, rfl⟩
      have hcell : wr.cell? ⟨b, off + h, none⟩ = some (.int .i64 y) := by rw [← hy]; exact hr wr (Below.refl _ _) h _ (intRow_at l h hhl)
      have hi1 : (i : Int) < (j : Int) := by omega
      have hlm : (l.length : Int) < 1001 := by have := HL.out; omega
      have hw0 : IntKind.i64.wrap ((i : Int) + (j : Int)) = (i : Int) + (j : Int) := by rw [IntKind.wrap_i64]; omega
      have hw1 : IntKind.u64.wrap ((i : Int) + (j : Int)) = (i : Int) + (j : Int) := by rw [IntKind.wrap_u64]; omega
      have hw2 : ((i : Int) + (j : Int)) / 2 = (h : Int) := by omega
      have hw3 : IntKind.i64.wrap (h : Int) = (h : Int) := by rw [IntKind.wrap_i64]; omega
      have hw4 : IntKind.u64.wrap (h : Int) = (h : Int) := by rw [IntKind.wrap_u64]; omega
      have hh0 : (0 : Int) ≤ (h : Int) := by omega
      have hhl2 : (h : Int) < (l.length : Int) := by omega
      have hhm : (h : Int) < 1001 := by omega
      have HH : Hid (i ≤ h ∧ h < j ∧ h < l.length) := ⟨hih.1, hih.2, hhl⟩
      have hmono : Hid (∀ k (hk : k < l.length), k ≤ h → l[k] ≤ y) := fun k hk hkh => by
        rw [← hy]
        rcases Nat.lt_or_eq_of_le hkh with h1 | h1
        · exact Int.le_of_lt (List.pairwise_iff_getElem.1 HS.out k h hk hhl h1)
        · subst h1; exact Int.le_refl _
      have hmono2 : Hid (∀ k (hk : k < l.length), h ≤ k → y ≤ l[k]) := fun k hk hkh => by
        rw [← hy]
        rcases Nat.lt_or_eq_of_le hkh with h1 | h1
        · exact Int.le_of_lt (List.pairwise_iff_getElem.1 HS.out h k hhl hk h1)
        · subst h1; exact Int.le_refl _
      have hless := less_any y t wr
      clear hr hy hg hih hh hhl
      by_cases hyt : y < t
      · have hd : decide (y < t) = true := decide_eq_true hyt
        rw [hd] at hless
        have HY := Lib.hid hyt
        clear hyt hd
        go_wp2_with fail
        refine hless.mono ?_
        rintro e w2 ⟨rfl, rfl⟩
        clear hless
        go_wp2_with fail
        go_roundw
        case rel => exact ⟨h + 1, j, by go_num, rfl, by have := HH.out; omega, HIJ.out.2, fun k hk hkh => by have := hmono.out k hk (by omega); have := HY.out; omega, HHi.out, trivial⟩
        case measure => have := HH.out; simp [intOf]; omega
      · have hd : decide (y < t) = false := decide_eq_false hyt
        rw [hd] at hless
        have HY := Lib.hid hyt
        clear hyt hd
        go_wp2_with fail
        refine hless.mono ?_
        rintro e w2 ⟨rfl, rfl⟩
        clear hless
        go_wp2_with fail
        go_roundw
        case rel => exact ⟨i, h, rfl, rfl, HH.out.1, by have := HH.out; omega, HLo.out, fun k hk hkh => by have := hmono2.out k hk hkh; have := HY.out; omega, trivial⟩
        case measure => have := HH.out; simp [intOf]; omega
    · obtain rfl : i = j := by omega
      have HP : Hid (PosR t l i) := ⟨hj, HLo.out, fun k hk hik => HHi.out k hk hik⟩
      by_cases hil : i < l.length
      · obtain ⟨b, off, rfl, hr⟩ := hg.out (by omega)
        obtain ⟨y, hy⟩ : ∃ y, l[i] = y := ⟨_, rfl⟩
        have hcell : wr.cell? ⟨b, off + i, none⟩ = some (.int .i64 y) := by rw [← hy]; exact hr wr (Below.refl _ _) i _ (intRow_at l i hil)
        have hi1 : (i : Int) < (l.length : Int) := by omega
        have hi0 : (0 : Int) ≤ (i : Int) := by omega
        have HD : Hid (l[i]? = some y) := by show _ = _; rw [List.getElem?_eq_getElem hil, hy]
        clear hr hy hg
        by_cases hyt : y = t
        · have hb1 : (y == t) = true := by simp [hyt]
          have HR : Hid (decide (l[i]? = some t) = true) := decide_eq_true (by rw [HD.out, hyt])
          clear hyt
          go_wp2
          exact bodyPost_ret (v := .tuple #[.int .i64 i, .bool true]) (by simp [results, Try.results63, go_sem]) rfl ⟨i, by rw [HR.out], HP.out, rfl⟩
        · have hb1 : (y == t) = false := by rw [beq_eq_false_iff_ne]; exact hyt
          have HR : Hid (decide (l[i]? = some t) = false) := decide_eq_false (by rw [HD.out]; intro h; exact hyt (Option.some.inj h))
          clear hyt
          go_wp2
          exact bodyPost_ret (v := .tuple #[.int .i64 i, .bool false]) (by simp [results, Try.results63, go_sem]) rfl ⟨i, by rw [HR.out], HP.out, rfl⟩
      · have hi1 : ¬ (i : Int) < (l.length : Int) := by omega
        have HR : Hid (decide (l[i]? = some t) = false) := decide_eq_false (by rw [List.getElem?_eq_none (by omega)]; intro h; cases h)
        clear hg
        go_wp2
        exact bodyPost_ret (v := .tuple #[.int .i64 i, .bool false]) (by simp [results, Try.results63, go_sem]) rfl ⟨i, by rw [HR.out], HP.out, rfl⟩
theorem binSearch_at (t : Int) (l : List Int) (v : Value) (R : List Rng) (w : World) (hs : l.Pairwise (· < ·)) (hv : SlRd v 1 l.length (intRow l) R) (hR : RdIn w R) (hl : l.length ≤ 1000) {i : Nat} (hi : PosR t l i) :
    Calls Try.prog 63 #[v, .int .i64 t] w fun e w' => e = .returned (.tuple #[.int .i64 i, .bool (decide (l[i]? = some t))]) ∧ w' = w :=
  (binSearch_any t l v R w hs hv hR hl).mono fun e w' ⟨j, h1, h2, h3⟩ => by
    obtain rfl := pos_unique hi h2
    exact ⟨h1, h3⟩
end Go.Proofs.Ytlmbnofkmmehoaa
/- bits.Mul at one and a small number -/
namespace Go.Proofs.Ytlmbnofkmmehoaa
open Go.RowKit
set_option maxRecDepth 20000
set_option linter.unusedSimpArgs false
set_option linter.unusedVariables false

theorem and_small (n : Nat) (hn : n ≤ 64) : bits BinOp.and IntKind.u64 (n : Int) 4294967295 = n := by
  have h : ∀ k : Fin 65, bits BinOp.and IntKind.u64 ((k.1 : Nat) : Int) 4294967295 = (k.1 : Int) := by decide
  exact h ⟨n, by omega⟩
set_option maxHeartbeats 4000000 in
theorem mul_any (n : Nat) (hn : n ≤ 64) (w : World) : Calls Try.prog 74 #[.int .u64 1, .int .u64 n] w fun e w' => e = .returned (.tuple #[.int .u64 0, .int .u64 n]) ∧ w' = w := by
  have e1 : bits BinOp.and IntKind.u64 1 4294967295 = 1 := and_small 1 (by decide)
  have e2 := and_small n hn
  have e3 : (n : Int) / 4294967296 = 0 := by omega
  have e4 : IntKind.u64.wrap (n : Int) = n := by rw [IntKind.wrap_u64]; omega
  have e5 : IntKind.u64.wrap 0 = 0 := by decide
  have e6 : bits BinOp.and IntKind.u64 0 4294967295 = 0 := and_small 0 (by decide)
  clear hn
  generalize (n : Int) = y at *
  go_enter Try.func74, Try.ntmps74
  go_wp2
  exact bodyPost_ret (v := .tuple #[.int .u64 0, .int .u64 y]) (by simp [results, Try.results74, go_sem]) rfl ⟨rfl, rfl⟩
end Go.Proofs.Ytlmbnofkmmehoaa
/- the walks of the reference's blanks and New -/
namespace Go.Proofs.Ytlmbnofkmmehoaa
open Go.RowKit
set_option maxRecDepth 20000

theorem one_s (y : ByteArray) : ∀ u ∈ ([.string y] : List Value), u.oneCell' = true := by
  intro u hu
  obtain rfl := List.mem_singleton.1 hu
  rfl
theorem made256 : ∃ (L : List Value), (∀ w : World, Sem.run Try.prog (Instr.makeSlice 22 (.int .i64 256) (.int .i64 256)) w = .ok (.slice (some ⟨w.heap.size, 0, none⟩) 256 256) (w.alloc (.cells L.toArray 5))) ∧
    (∀ w : World, Sem.run Try.prog (convert 22 9 (.slice (some ⟨w.heap.size, 0, none⟩) 256 256)) (w.alloc (.cells L.toArray 5)) = .ok (.string blankPg) (w.alloc (.cells L.toArray 5))) := by
  refine ⟨(List.replicate 256 (0 : UInt8)).map (fun b => Value.int .u8 (b.toNat : Int)), fun w => ?_, fun w => ?_⟩
  · have hmk : Sem.run Try.prog (Instr.makeSlice 22 (.int .i64 256) (.int .i64 256)) w = .ok (.slice (some ⟨w.heap.size, 0, none⟩) 256 256) (w.alloc (.cells (madeCells #[.int .u8 0] 256) 5)) :=
      run_make_row' 22 5 (.int .u8 0) 1 Try.underlying22 info_byte rfl .i64 .i64 256 (by decide) (by decide) w
    rw [made_row] at hmk
    exact hmk
  · have hR : RowIn (w.alloc (.cells ((List.replicate 256 (0 : UInt8)).map (fun b => Value.int .u8 (b.toNat : Int))).toArray 5)) w.heap.size (List.replicate 256 (0 : UInt8)) := heap_alloc_last w _
    have := hR.conv 256 256 (len_rep 256).symm
    rw [this]
    unfold blankPg
    rw [List.toArray_replicate]
set_option linter.unusedSimpArgs false in
set_option maxHeartbeats 4000000 in
set_option maxRecDepth 20000 in
theorem blanks_any (n : Nat) (w : World) (hn : n ≤ 64) :
    Calls Try.prog 35 #[.int .i64 (n : Int)] w fun e w' => ∃ v, e = .returned v ∧ Below w.heap.size w w' ∧ w'.ownsRow w.heap.size 9 1 v (List.replicate n blankPg).length (strRow (List.replicate n blankPg)) := by
  have HUT : Hid (Try.prog.underlying 23 = some (.slice 9)) := Try.underlying23
  have HN := Lib.hid hn
  obtain ⟨L0, hmk, hcv⟩ := made256
  have HMk := Lib.hid hmk
  have HCv := Lib.hid hcv
  clear hn hmk hcv
  go_enter Try.func35, Try.ntmps35
  go_wp2_with fail
  have HS0 : Hid (Hp w [.sl (.slice none 0 0) 9 1 0 []] w) := (Hp.start w).nil 9 1
  go_loopw [3, 4] (fun sv i wr => ∃ (v : Value) (k : Nat), k ≤ n ∧ v = sv ∧ i = .int .i64 k ∧ Hp w [.sl v 9 1 (List.replicate k blankPg).length (strRow (List.replicate k blankPg))] wr) (fun _ i _ => n - (intOf i).toNat)
  case atStart => exact ⟨_, 0, by omega, rfl, rfl, HS0.out⟩
  case round =>
    obtain ⟨v, k, hk, hsv, rfl, hs⟩ := hrel
    subst hsv
    clear HS0
    have HY := Lib.hid hs
    clear hs
    by_cases hlt : k < n
    · have hki : (k : Int) < (n : Int) := by omega
      have hk0 : (0 : Int) ≤ (k : Int) := by omega
      have hkm : (k : Int) < 1000 := by have := HN.out; omega
      have hmk := HMk.out wr
      have hcv := HCv.out wr
      have hbl : ∃ B, blankPg = B := ⟨_, rfl⟩
      obtain ⟨B, hB⟩ := hbl
      rw [hB] at hcv
      have HB := Lib.hid hB
      clear hB
      go_wp2_with (first | ((with_reducible refine wpList_build_vals 23 1 elem_s HUT.out [.string B] ?_ ?_ ?_ ?_ ?_ ?_); (exact (by intro v hv; simp only [List.mem_cons, List.not_mem_nil, or_false] at hv; subst hv; rfl)); (exact Nat.succ_pos _); (simp only [List.length_cons, List.length_nil]; omega); (exact rfl); (simp only [List.map_toArray, List.map_cons, List.map_nil, List.zipIdx_cons, List.zipIdx_nil]; exact rfl); simp only [Act.put, List.setIfInBounds_toArray, List.set_cons_zero, List.set_cons_succ]) | ((with_reducible refine wpList_append_hp (((HY.out).put 5 (L0)).put 9 ([.string B])) (.tmp 10) (.tmp 13) 23 0 (v := v) (e := 9) (z := 1) (n := (List.replicate k blankPg).length) (xs := strRow (List.replicate k blankPg)) ?_ 2 (b := ((wr.alloc (.cells (L0).toArray 5)).heap.size)) (t' := 9) (ys := [.string B]) ?_ HUT.out elem_s 1 1 ?_ ?_ ?_ ?_ ?_ ?_); (exact rfl); (exact rfl); (exact rfl); (exact rfl); (exact rfl); (exact (one_s B)); (exact (by rw [List.length_replicate]; have := HN.out; omega))))
      intro v11 w11 hs hnil
      have HS12 : Hid (Hp w [.sl v11 9 1 ((List.replicate k blankPg).length + 1) ((strRow (List.replicate k blankPg)) ++ ([.string B])), .ob (wr.heap.size) 5 (L0), .ob ((wr.alloc (.cells (L0).toArray 5)).heap.size) 9 ([.string B])] w11) := hs
      clear hs
      clear HY
      generalize (wr.alloc (.cells (L0).toArray 5)).heap.size = B1 at *
      generalize wr.heap.size = B2 at *
      have HS13 : Hid (Hp w [.sl v11 9 1 ((List.replicate k blankPg).length + 1) ((strRow (List.replicate k blankPg)) ++ ([.string B]))] w11) := HS12.out.pull [0] rfl (pull_nd HS12.out.nd [0] rfl (by decide))
      clear HS12
      have HZ : Hid (Hp w [.sl v11 9 1 (List.replicate (k + 1) blankPg).length (strRow (List.replicate (k + 1) blankPg))] w11) := by
        show Hp _ _ _
        have e : strRow (List.replicate (k + 1) blankPg) = strRow (List.replicate k blankPg) ++ [.string B] := by unfold strRow; rw [List.replicate_succ', List.map_append, HB.out]; rfl
        rw [e, List.length_replicate]
        have := HS13.out
        rw [List.length_replicate] at this
        exact this
      go_wp2_with fail
      go_roundw
      case rel => exact ⟨_, k + 1, by omega, rfl, by go_num, HZ.out⟩
      case measure => simp [intOf]; omega
    · obtain rfl : k = n := by omega
      go_wp2_with fail
      go_ret
      exact ⟨_, rfl, HY.out.old, HY.out.own 0 rfl⟩
theorem blanks_k (n : Nat) (w : World) (hn : n ≤ 64) :
    Calls Try.prog 35 #[.int .i64 (n : Int)] w fun e w' => ∃ v, e = .returned v ∧ Below w.heap.size w w' ∧ w'.ownsRow w.heap.size 9 1 v n (strRow (List.replicate n blankPg)) :=
  (blanks_any n w hn).mono fun e w' ⟨v, h1, h2, h3⟩ => ⟨v, h1, h2, by rw [List.length_replicate] at h3; exact h3⟩
/-- how a function that gives a device and an error ends: it reads as x says, in memory that is new or was read before -/
def DvPost (w : World) (R0 : List Rng) (x : Dv × Int) (e : Ending) (w' : World) : Prop :=
  ∃ p u f R, e = .returned (.tuple #[.agg (dvCells p x.1 u f).toArray, .int .i64 x.2]) ∧ DvRd p u f x.1 R ∧ RdIn w' R ∧ (∀ r ∈ R, w.heap.size ≤ r.1 ∨ r ∈ R0) ∧ Below w.heap.size w w'
theorem DvPost.none {w w' : World} {R0 : List Rng} {x : Dv × Int} {n : Int} (hx : x = (dvNil, n)) (hb : Below w.heap.size w w') : DvPost w R0 x (.returned (.tuple #[.agg (dvCells nilS dvNil nilS nilS).toArray, .int .i64 n])) w' := by
  subst hx
  exact ⟨_, _, _, [], rfl, ⟨SlRd.nil _ _, SlRd.nil _ _, SlRd.nil _ _⟩, RdIn.nil _, by simp, hb⟩
theorem build_dv0 (W : World) : Sem.run Try.prog (Instr.build 27 #[]) W = .ok (.agg (dvCells nilS dvNil nilS nilS).toArray) W := by kernel_rfl
theorem build_dv1 (a : Option Addr) (n c : Nat) (W : World) : Sem.run Try.prog (Instr.build 27 #[(0, .slice a n c)]) W = .ok (.agg (dvCells (.slice a n c) dvNil nilS nilS).toArray) W := by kernel_rfl
set_option linter.unusedSimpArgs false in
set_option maxHeartbeats 4000000 in
theorem rnew_any (n : Int) (w : World) : Calls Try.prog 14 #[.int .i64 n] w (DvPost w [] (newR n)) := by
  obtain ⟨fs, hud⟩ := under_dv
  have HUD := Lib.hid hud
  clear hud
  have HS0 : Hid (Hp w [] w) := Hp.start w
  have hb0 := build_dv0
  by_cases h1 : n < 1
  · have HX := Lib.hid h1
    go_enter Try.func14, Try.ntmps14
    go_wp2_with (first | ((with_reducible refine wpList_alloc_ob 27 (dvCells nilS dvNil nilS nilS) ?_ ?_); (exact alloc_dv); simp only [Act.put, List.setIfInBounds_toArray, List.set_cons_zero, List.set_cons_succ]) | ((with_reducible refine wpList_build_v 27 (.agg (dvCells nilS dvNil nilS nilS).toArray) ?_ ?_); (intro W; simp only [List.map_toArray, List.map_cons, List.map_nil]; exact build_dv0 W); simp only [Act.put, List.setIfInBounds_toArray, List.set_cons_zero, List.set_cons_succ]) | ((with_reducible refine wpList_store_ob 27 (.tmp 2) (w.heap.size) (dvCells nilS dvNil nilS nilS) (dvCells nilS dvNil nilS nilS) 27 ?_ ?_ ?_ ?_ ?_ ?_ ?_); (exact rfl); (exact rfl); (exact ((HS0.out).put 27 (dvCells nilS dvNil nilS nilS)).get 0 rfl); (exact info_dv); (exact rfl); (exact (oneCell_dv _ _ _ _ _ _ _ _ _ _)); skip))
    have HS1 : Hid (Hp w [.ob (w.heap.size) 27 (dvCells nilS dvNil nilS nilS)] ((w.alloc (.cells (dvCells nilS dvNil nilS nilS).toArray 27)).setRow (w.heap.size) (dvCells nilS dvNil nilS nilS).toArray)) := ((HS0.out).put 27 (dvCells nilS dvNil nilS nilS)).row 0 rfl (dvCells nilS dvNil nilS nilS)
    clear HS0
    generalize ((w.alloc (.cells (dvCells nilS dvNil nilS nilS).toArray 27)).setRow (w.heap.size) (dvCells nilS dvNil nilS nilS).toArray) = w3 at *
    refine bodyPost_ret (results_ob_tmp Try.results14 _ _ (w.heap.size) (dvCells nilS dvNil nilS nilS) 27 _ rfl (HS1.out.get 0 rfl) HUD.out rfl info_dv) rfl ?_
    exact DvPost.none (by unfold newR; rw [if_pos (by exact .inl HX.out)]) HS1.out.old
  by_cases h2 : 64 < n
  · have HX := Lib.hid h2
    go_enter Try.func14, Try.ntmps14
    go_wp2_with (first | ((with_reducible refine wpList_alloc_ob 27 (dvCells nilS dvNil nilS nilS) ?_ ?_); (exact alloc_dv); simp only [Act.put, List.setIfInBounds_toArray, List.set_cons_zero, List.set_cons_succ]) | ((with_reducible refine wpList_build_v 27 (.agg (dvCells nilS dvNil nilS nilS).toArray) ?_ ?_); (intro W; simp only [List.map_toArray, List.map_cons, List.map_nil]; exact build_dv0 W); simp only [Act.put, List.setIfInBounds_toArray, List.set_cons_zero, List.set_cons_succ]) | ((with_reducible refine wpList_store_ob 27 (.tmp 2) (w.heap.size) (dvCells nilS dvNil nilS nilS) (dvCells nilS dvNil nilS nilS) 27 ?_ ?_ ?_ ?_ ?_ ?_ ?_); (exact rfl); (exact rfl); (exact ((HS0.out).put 27 (dvCells nilS dvNil nilS nilS)).get 0 rfl); (exact info_dv); (exact rfl); (exact (oneCell_dv _ _ _ _ _ _ _ _ _ _)); skip))
    have HS1 : Hid (Hp w [.ob (w.heap.size) 27 (dvCells nilS dvNil nilS nilS)] ((w.alloc (.cells (dvCells nilS dvNil nilS nilS).toArray 27)).setRow (w.heap.size) (dvCells nilS dvNil nilS nilS).toArray)) := ((HS0.out).put 27 (dvCells nilS dvNil nilS nilS)).row 0 rfl (dvCells nilS dvNil nilS nilS)
    clear HS0
    generalize ((w.alloc (.cells (dvCells nilS dvNil nilS nilS).toArray 27)).setRow (w.heap.size) (dvCells nilS dvNil nilS nilS).toArray) = w3 at *
    refine bodyPost_ret (results_ob_tmp Try.results14 _ _ (w.heap.size) (dvCells nilS dvNil nilS nilS) 27 _ rfl (HS1.out.get 0 rfl) HUD.out rfl info_dv) rfl ?_
    exact DvPost.none (by unfold newR; rw [if_pos (by exact .inr HX.out)]) HS1.out.old
  · obtain ⟨k, rfl⟩ := Int.eq_ofNat_of_zero_le (show 0 ≤ n by omega)
    have HK : Hid (k ≤ 64) := by show _ ≤ _; omega
    have HX : Hid (newR (k : Int) = (⟨List.replicate k blankPg, 0, [], false, []⟩, 0)) := by
      show _ = _
      unfold newR
      rw [if_neg (by omega), Int.toNat_natCast]
    go_enter Try.func14, Try.ntmps14
    go_wp2_with (first | ((with_reducible refine wpList_alloc_ob 27 (dvCells nilS dvNil nilS nilS) ?_ ?_); (exact alloc_dv); simp only [Act.put, List.setIfInBounds_toArray, List.set_cons_zero, List.set_cons_succ]))
    refine (blanks_k k _ HK.out).mono ?_
    rintro e w3 ⟨v, rfl, hb, ho⟩
    have HS1 : Hid (Hp w [.ob (w.heap.size) 27 (dvCells nilS dvNil nilS nilS), .sl v 9 1 (k) (strRow (List.replicate k blankPg))] w3) := ((HS0.out).put 27 (dvCells nilS dvNil nilS nilS)).addown hb ho
    clear hb ho
    clear HS0
    obtain ⟨R, hrd, _, _⟩ := own_reads (HS1.out.own 1 rfl)
    obtain ⟨a, c, rfl, _⟩ := hrd
    go_wp2_with (first | ((with_reducible refine wpList_build_v 27 (.agg (dvCells (.slice a k c) dvNil nilS nilS).toArray) ?_ ?_); (intro W; simp only [List.map_toArray, List.map_cons, List.map_nil]; exact build_dv1 _ _ _ W); simp only [Act.put, List.setIfInBounds_toArray, List.set_cons_zero, List.set_cons_succ]) | ((with_reducible refine wpList_store_ob 27 (.tmp 2) (w.heap.size) (dvCells (.slice a k c) dvNil nilS nilS) (dvCells nilS dvNil nilS nilS) 27 ?_ ?_ ?_ ?_ ?_ ?_ ?_); (exact rfl); (exact rfl); (exact (HS1.out).get 0 rfl); (exact info_dv); (exact rfl); (exact (oneCell_dv _ _ _ _ _ _ _ _ _ _)); skip))
    have HS2 : Hid (Hp w [.ob (w.heap.size) 27 (dvCells (.slice a k c) dvNil nilS nilS), .sl ((.slice a k c)) 9 1 (k) (strRow (List.replicate k blankPg))] (w3.setRow (w.heap.size) (dvCells (.slice a k c) dvNil nilS nilS).toArray)) := (HS1.out).row 0 rfl (dvCells (.slice a k c) dvNil nilS nilS)
    clear HS1
    generalize (w3.setRow (w.heap.size) (dvCells (.slice a k c) dvNil nilS nilS).toArray) = w4 at *
    refine bodyPost_ret (results_ob_tmp Try.results14 _ _ (w.heap.size) (dvCells (.slice a k c) dvNil nilS nilS) 27 _ rfl (HS2.out.get 0 rfl) HUD.out rfl info_dv) rfl ?_
    obtain ⟨R', hrd', hin', hnew'⟩ := own_reads (HS2.out.own 1 rfl)
    rw [HX.out]
    exact ⟨.slice a k c, nilS, nilS, R', rfl, ⟨by show SlRd _ 1 (List.replicate k blankPg).length _ R'; rw [List.length_replicate]; exact hrd', SlRd.nil _ _, SlRd.nil _ _⟩, hin', fun r hr => .inl (hnew' r hr).1, HS2.out.old⟩
end Go.Proofs.Ytlmbnofkmmehoaa
/- the library's Repeat of one text, and the program's blanks -/
namespace Go.Proofs.Ytlmbnofkmmehoaa
open Go.RowKit
set_option maxRecDepth 20000
set_option linter.unusedSimpArgs false
set_option linter.unusedVariables false

theorem info_str : (Try.prog.info? 9).map (fun i => (i.zero, i.size, i.bytes)) = some (some (.string ⟨#[]⟩), 1, 16) := by kernel_rfl
theorem info_str1 : (Try.prog.info? 9).map (·.size) = some 1 := by kernel_rfl
theorem make_strs (n : Nat) (hn : n ≤ 64) (W : World) : Sem.run Try.prog (Instr.makeSlice 23 (.int .i64 (n : Int)) (.int .i64 (n : Int))) W = .ok (.slice (some ⟨W.heap.size, 0, none⟩) n n) (W.alloc (.cells (Array.replicate n (Value.string ⟨#[]⟩)) 9)) := by
  have h : Sem.run Try.prog (Instr.makeSlice 23 (.int .i64 (n : Int)) (.int .i64 (n : Int))) W = .ok (.slice (some ⟨W.heap.size, 0, none⟩) n n) (W.alloc (.cells (madeCells #[.string ⟨#[]⟩] n) 9)) :=
    run_make_row' 23 9 (.string ⟨#[]⟩) 16 Try.underlying23 info_str rfl .i64 .i64 n (by omega) (by omega) W
  rw [h]
  have e : madeCells #[.string ⟨#[]⟩] n = (Array.replicate n (Value.string ⟨#[]⟩)) := by
    apply Array.toList_inj.1
    rw [toList_madeCells_one, Array.toList_replicate]
  rw [e]
/-- the row while it is filled: k of n -/
def repRow (B : ByteArray) (k n : Nat) : List Value := List.replicate k (.string B) ++ List.replicate (n - k) (.string ⟨#[]⟩)
theorem repRow_len {B : ByteArray} {k n : Nat} (h : k ≤ n) : (repRow B k n).length = n := by unfold repRow; rw [List.length_append, List.length_replicate, List.length_replicate]; omega
theorem repRow_step {B : ByteArray} {k n m : Nat} (h : k + m ≤ n) : splice (repRow B k n) k (List.replicate m (.string B)) = repRow B (k + m) n := by
  unfold splice repRow
  rw [List.take_append_of_le_length (by simp), List.take_of_length_le (by simp), List.length_replicate, List.drop_append, List.length_replicate, List.drop_of_length_le (by simp), List.nil_append, List.drop_replicate, ← List.append_assoc, List.replicate_append_replicate]
  congr 2
  omega
theorem repRow_at {B : ByteArray} {k n j : Nat} (h : j < k) : (repRow B k n)[j]? = some (.string B) := by
  unfold repRow
  rw [List.getElem?_append_left (by simp [h]), List.getElem?_replicate, if_pos h]
theorem one_src {W : World} {b : Nat} {v : Value} (h : W.cell? ⟨b, 0, none⟩ = some v) : ∀ j u, [v][j]? = some u → W.cell? ((⟨b, 0, none⟩ : Addr).add j) = some u := fun j u hj => by
  have h0 := (List.getElem?_eq_some_iff.1 hj).1
  have h1 : j = 0 := by simp only [List.length_cons, List.length_nil] at h0; omega
  subst h1
  have h2 : v = u := by simpa using hj
  rw [← h2, Addr.add_mid]
  exact h
theorem row_src {W : World} {g : Nat} {cur cs : List Value} {t : TypeId} (h : W.heap[g]? = some (.cells cur.toArray t (0, 0))) (o : Nat) (hc : ∀ j u, cs[j]? = some u → cur[o + j]? = some u) : ∀ j u, cs[j]? = some u → W.cell? ((⟨g, o, none⟩ : Addr).add j) = some u := fun j u hj => by
  rw [Addr.add_mid, cell_of_row W g (o + j) _ _ _ h, List.getElem?_toArray]
  exact hc j u hj
set_option maxHeartbeats 8000000 in
theorem repeat_any (b0 : Nat) (B : ByteArray) (n : Nat) (h1 : 1 ≤ n) (hn : n ≤ 64) (w : World) (hc : w.cell? ⟨b0, 0, none⟩ = some (.string B)) (hb0 : b0 < w.heap.size) :
    Calls Try.prog 58 #[.slice (some ⟨b0, 0, none⟩) 1 1, .int .i64 n] w fun e w' => e = .returned (.slice (some ⟨w.heap.size, 0, none⟩) n n) ∧ w'.heap[w.heap.size]? = some (.cells (List.replicate n (.string B)).toArray 9 (0, 0)) ∧ Below w.heap.size w w' := by
  have HUT : Hid (Try.prog.underlying 23 = some (.slice 9)) := Try.underlying23
  have hmul := mul_any n hn w
  have hmk := make_strs n hn w
  have HC := Lib.hid hc
  have hn0 : ¬ (n : Int) < 0 := by omega
  have hnm : ¬ (9223372036854775807 < (n : Int)) := by omega
  have hw1 : IntKind.u64.wrap (n : Int) = n := by rw [IntKind.wrap_u64]; omega
  have hw2 : IntKind.i64.wrap (n : Int) = n := by rw [IntKind.wrap_i64]; omega
  have HN : Hid (1 ≤ n ∧ n ≤ 64) := ⟨h1, hn⟩
  have HG0 : Hid ((w.alloc (.cells (Array.replicate n (Value.string ⟨#[]⟩)) 9)).heap[w.heap.size]? = some (.cells (repRow B 0 n).toArray 9 (0, 0))) := by
    show _ = _
    rw [heap_alloc_last, ← List.toArray_replicate]
    rfl
  have HB0 : Hid (Below w.heap.size w (w.alloc (.cells (Array.replicate n (Value.string ⟨#[]⟩)) 9))) := (Below.refl _ _).alloc (Nat.le_refl _) _
  have HC2 : Hid ((w.alloc (.cells (Array.replicate n (Value.string ⟨#[]⟩)) 9)).cell? ⟨b0, 0, none⟩ = some (.string B)) := (HB0.out.cell (p := ⟨b0, 0, none⟩) hb0).trans hc
  clear hc h1 hn
  go_enter Try.func58, Try.ntmps58
  go_wp2_with (first | (go_at_call 74; refine hmul.mono ?_; rintro e w2 ⟨rfl, rfl⟩) | ((with_reducible refine wpList_copy_splice rfl (.tmp 31) (.tmp 32) 23 23 rfl 9 HUT.out info_str1 (some ⟨w2.heap.size, 0, none⟩) (some ⟨b0, 0, none⟩) n n 1 1 rfl rfl w2.heap.size 0 (repRow B 0 n) 9 HG0.out [.string B] ?_ ?_ ?_ ?_ w2.heap.size w2 HB0.out (Nat.le_refl _) ?_); (exact (by have := HN.out; simp only [List.length_cons, List.length_nil, Nat.min_def]; split <;> omega)); (exact fun _ => ⟨rfl, _, rfl, one_src HC2.out⟩); (exact (by rw [repRow_len (Nat.zero_le _)]; have := HN.out; simp only [List.length_cons, List.length_nil]; omega)); (exact one_s B)))
  intro w3 hg3 hb3
  have HG3 : Hid (w3.heap[w2.heap.size]? = some (.cells (repRow B 1 n).toArray 9 (0, 0))) := by
    have h := hg3.out
    rw [show ([Value.string B] : List Value) = List.replicate 1 (.string B) from rfl, repRow_step (by have := HN.out; omega)] at h
    exact h
  have HB3 := Lib.hid hb3
  clear hg3 hb3 HG0 HB0 HC2
  go_wp2_with fail
  go_loopw [8] (fun i wr => ∃ k : Nat, 1 ≤ k ∧ k ≤ n ∧ i = .int .i64 k ∧ wr.heap[w2.heap.size]? = some (.cells (repRow B k n).toArray 9 (0, 0)) ∧ Below w2.heap.size w2 wr) (fun i _ => n - (intOf i).toNat)
  case atStart => exact ⟨1, by omega, by have := HN.out; omega, rfl, HG3.out, HB3.out⟩
  case round =>
    obtain ⟨k, hk1, hk, rfl, hg, hb⟩ := hrel
    have HG := Lib.hid hg
    have HB := Lib.hid hb
    clear hg hb HG3 HB3
    by_cases hlt : k < n
    · have hki : (k : Int) < (n : Int) := by omega
      have hk0 : (0 : Int) ≤ (k : Int) := by omega
      have hkn : ¬ (n = k) := by omega
      have hkm : (k : Int) < 1000 := by have := HN.out; omega
      have hkl : (k : Int) ≤ (n : Int) := by omega
      obtain ⟨m, hm⟩ : ∃ m, m = Nat.min k (n - k) := ⟨_, rfl⟩
      have HM : Hid (m = Nat.min k (n - k)) := hm
      have HMn : Hid (1 ≤ m ∧ k + m ≤ n) := by
        show _ ∧ _
        rw [hm]
        simp only [Nat.min_def]
        split <;> omega
      clear hm
      have H1 : Hid ((List.replicate m (Value.string B)).length = Nat.min k (n - k)) := by show _ = _; rw [List.length_replicate, HM.out]
      have H2 : Hid (∀ j v, (List.replicate m (Value.string B))[j]? = some v → wr.drew.cell? ((⟨w2.heap.size, 0, none⟩ : Addr).add j) = some v) := row_src (W := wr.drew) HG.out 0 (fun j v hj => by
        have hjm := (List.getElem?_eq_some_iff.1 hj).1
        rw [List.length_replicate] at hjm
        rw [List.getElem?_replicate, if_pos hjm] at hj
        rw [Nat.zero_add, repRow_at (by have h := HM.out; simp only [Nat.min_def] at h; split at h <;> omega)]
        exact hj)
      have H3 : Hid (k + (List.replicate m (Value.string B)).length ≤ (repRow B k n).length) := by show _ ≤ _; rw [List.length_replicate, repRow_len hk]; exact HMn.out.2
      have H4 : Hid (∀ v ∈ List.replicate m (Value.string B), v.oneCell' = true) := fun v hv => by rw [List.eq_of_mem_replicate hv]; rfl
      have hw3 : IntKind.i64.wrap ((k : Int) + (m : Int)) = ((k + m : Nat) : Int) := by rw [IntKind.wrap_i64]; have := HMn.out; have := HN.out; omega
      go_wp2_with fail
      go_region_law (refine step_copy_splice rfl (.tmp 41) (.tmp 44) 23 23 rfl 9 HUT.out info_str1 (some ⟨w2.heap.size, k, none⟩) (some ⟨w2.heap.size, 0, none⟩) (n - k) (n - k) k n (by simp [Act.eval, Act.put]) (by simp [Act.eval, Act.put]) w2.heap.size k (repRow B k n) 9 HG.out (List.replicate m (.string B)) H1.out (fun _ => ⟨rfl, _, rfl, H2.out⟩) H3.out H4.out w2.heap.size w2 HB.out.drew (Nat.le_refl _) ?_; intro w4 hg4 hb4)
      have HG4 : Hid (w4.heap[w2.heap.size]? = some (.cells (repRow B (k + m) n).toArray 9 (0, 0))) := by
        have h := hg4.out
        rw [repRow_step HMn.out.2] at h
        exact h
      have HB4 := Lib.hid hb4
      have hl : (List.replicate m (Value.string B)).length = m := List.length_replicate
      clear hg4 hb4 H1 H2 H3 H4
      simp only [Act.put, List.getElem_toArray, List.getElem_cons_succ, List.getElem_cons_zero, List.setIfInBounds_toArray, List.set_cons_succ, List.set_cons_zero]
      go_wp2_with fail
      go_roundw
      case rel => exact ⟨k + m, by omega, HMn.out.2, by go_num, HG4.out, HB4.out⟩
      case measure => have := HMn.out; simp [intOf]; omega
    · obtain rfl : k = n := by omega
      go_wp2_with fail
      go_ret
      have h := HG.out
      unfold repRow at h
      rw [Nat.sub_self, List.replicate_zero, List.append_nil] at h
      exact ⟨rfl, h, HB.out⟩
end Go.Proofs.Ytlmbnofkmmehoaa
/- the walks of the reference's lists of numbers -/
namespace Go.Proofs.Ytlmbnofkmmehoaa
open Go.RowKit
set_option maxRecDepth 20000

theorem without_take {l : List Int} {n : Int} {k : Nat} (h : k < l.length) : withoutR (l.take (k + 1)) n = withoutR (l.take k) n ++ (if l[k] = n then [] else [l[k]]) := by
  unfold withoutR
  rw [List.take_succ_eq_append_getElem h, List.filter_append]
  congr 1
  by_cases e : l[k] = n <;> simp [e]
theorem without_len (l : List Int) (n : Int) : (withoutR l n).length ≤ l.length := List.length_filter_le _ _
theorem one_i (y : Int) : ∀ u ∈ ([.int .i64 y] : List Value), u.oneCell' = true := by
  intro u hu
  obtain rfl := List.mem_singleton.1 hu
  rfl
set_option maxHeartbeats 4000000 in
set_option maxRecDepth 20000 in
theorem without_any (l : List Int) (n : Int) (v : Value) (R : List Rng) (w : World) (hv : SlRd v 1 l.length (intRow l) R) (hR : RdIn w R) (hl : l.length ≤ 1000) :
    Calls Try.prog 65 #[v, .int .i64 n] w fun e w' => ∃ u, e = .returned u ∧ Below w.heap.size w w' ∧ w'.ownsRow w.heap.size 3 1 u (withoutR l n).length (intRow (withoutR l n)) := by
  obtain ⟨a, cap, rfl, hnc, hcm, hg⟩ := hv.open hR
  have HC : Hid (l.length ≤ cap ∧ cap ≤ maxLen) := ⟨hnc, hcm⟩
  have HL := Lib.hid hl
  have HUI : Hid (Try.prog.underlying 24 = some (.slice 3)) := Try.underlying24
  clear hv hR hnc hcm hl
  go_enter Try.func65, Try.ntmps65
  go_wp2_with fail
  have HS0 : Hid (Hp w [.sl (.slice none 0 0) 3 1 0 []] w) := (Hp.start w).nil 3 1
  go_loopw [5, 6] (fun sv i wr => ∃ (v : Value) (k : Nat), k ≤ l.length ∧ v = sv ∧ i = .int .i64 k ∧ Hp w [.sl v 3 1 (withoutR (l.take k) n).length (intRow (withoutR (l.take k) n))] wr) (fun _ i _ => l.length - (intOf i).toNat)
  case atStart => exact ⟨_, 0, by omega, rfl, rfl, HS0.out⟩
  case round =>
    obtain ⟨v, k, hk, hsv, rfl, hs⟩ := hrel
    subst hsv
    clear HS0
    have HY := Lib.hid hs
    clear hs
    by_cases hlt : k < l.length
    · obtain ⟨g, off, rfl, hr⟩ := hg.out (by omega)
      have hc : wr.cell? ⟨g, off + k, none⟩ = some (.int .i64 l[k]) := hr wr HY.out.old k _ (intRow_at l k hlt)
      have hki : (k : Int) < (l.length : Int) := by omega
      have hk0 : (0 : Int) ≤ (k : Int) := by omega
      have hkm : (k : Int) < 1000 := by have := HL.out; omega
      have hst := without_take (n := n) hlt
      by_cases hx : l[k] = n
      · rw [if_pos hx, List.append_nil] at hst
        have HX := Lib.hid hst
        have hxb : (l[k] != n) = false := by simp [hx]
        clear hr hx hg hst
        generalize l[k] = y at *
        go_wp2_with fail
        go_roundw
        case rel => exact ⟨_, k + 1, by omega, rfl, by go_num, by rw [HX.out]; exact HY.out⟩
        case measure => simp [intOf]; omega
      · rw [if_neg hx] at hst
        have HX := Lib.hid hst
        have hxb : (l[k] != n) = true := by simp [hx]
        have HLn : Hid ((withoutR (l.take k) n).length ≤ 1000) := by
          have := without_len (l.take k) n
          rw [List.length_take] at this
          have := HL.out
          show _ ≤ _
          omega
        have HG : Hid (∀ W, Below w.heap.size w W → W.cell? ⟨g, off + k, none⟩ = some (.int .i64 l[k])) := fun W hb => hr W hb k _ (intRow_at l k hlt)
        clear hr hx hg hst
        generalize l[k] = y at *

        go_wp2_with (first | ((with_reducible refine wpList_build_vals 24 1 elem_i HUI.out [.int .i64 y] ?_ ?_ ?_ ?_ ?_ ?_); (exact (by intro v hv; simp only [List.mem_cons, List.not_mem_nil, or_false] at hv; subst hv; rfl)); (exact Nat.succ_pos _); (simp only [List.length_cons, List.length_nil]; omega); (exact rfl); (simp only [List.map_toArray, List.map_cons, List.map_nil, List.zipIdx_cons, List.zipIdx_nil]; exact rfl); simp only [Act.put, List.setIfInBounds_toArray, List.set_cons_zero, List.set_cons_succ]) | ((with_reducible refine wpList_append_hp ((HY.out).put 3 ([.int .i64 y])) (.tmp 19) (.tmp 24) 24 0 (v := v) (e := 3) (z := 1) (n := (withoutR (l.take k) n).length) (xs := intRow (withoutR (l.take k) n)) ?_ 1 (b := (wr.heap.size)) (t' := 3) (ys := [.int .i64 y]) ?_ HUI.out elem_i 1 1 ?_ ?_ ?_ ?_ ?_ ?_); (exact rfl); (exact rfl); (exact rfl); (exact rfl); (exact rfl); (exact (one_i y)); (exact (by have := HLn.out; omega))))
        intro v11 w11 hs hnil
        have HS12 : Hid (Hp w [.sl v11 3 1 ((withoutR (l.take k) n).length + 1) ((intRow (withoutR (l.take k) n)) ++ ([.int .i64 y])), .ob (wr.heap.size) 3 ([.int .i64 y])] w11) := hs
        clear hs
        clear HY
        generalize wr.heap.size = B1 at *

        have HS13 : Hid (Hp w [.sl v11 3 1 ((withoutR (l.take k) n).length + 1) ((intRow (withoutR (l.take k) n)) ++ ([.int .i64 y]))] w11) := HS12.out.pull [0] rfl (pull_nd HS12.out.nd [0] rfl (by decide))
        clear HS12
        have HZ : Hid (Hp w [.sl v11 3 1 (withoutR (l.take (k + 1)) n).length (intRow (withoutR (l.take (k + 1)) n))] w11) := by
          show Hp _ _ _
          rw [HX.out, List.length_append]
          have e : intRow (withoutR (l.take k) n ++ [y]) = intRow (withoutR (l.take k) n) ++ [.int .i64 y] := by unfold intRow; rw [List.map_append]; rfl
          rw [e]
          exact HS13.out
        go_wp2_with fail
        go_roundw
        case rel => exact ⟨_, k + 1, by omega, rfl, by go_num, HZ.out⟩
        case measure => simp [intOf]; omega
    · obtain rfl : k = l.length := by omega
      rw [List.take_length] at HY
      go_wp2_with fail
      go_ret
      exact ⟨_, rfl, HY.out.old, HY.out.own 0 rfl⟩
end Go.Proofs.Ytlmbnofkmmehoaa
/- the library's Insert of one number -/
namespace Go.Proofs.Ytlmbnofkmmehoaa
open Go.RowKit
set_option maxRecDepth 20000
set_option linter.unusedSimpArgs false
set_option linter.unusedVariables false

def insI (l : List Int) (i : Nat) (t : Int) : List Int := l.take i ++ t :: l.drop i
theorem insI_len (l : List Int) (i : Nat) (t : Int) : (insI l i t).length = l.length + 1 := by
  unfold insI
  rw [List.length_append, List.length_cons, List.length_take, List.length_drop]
  omega
/-- how an insertion ends -/
def InsPost (B0 : Nat) (w : World) (v : Value) (m : List Int) (e : Ending) (w' : World) : Prop :=
  ∃ u, e = .returned u ∧ w'.ownsRow B0 3 1 u m.length (intRow m) ∧ w.grownBy w' v.ownBlock ∧ (u.ownBlock = v.ownBlock ∨ u.ownBlock = some w.heap.size)
theorem info_int1 : (Try.prog.info? 3).map (·.size) = some 1 := by kernel_rfl
theorem info_int : (Try.prog.info? 3).map (fun i => (i.zero, i.size, i.bytes)) = some (some (.int .i64 0), 1, 8) := by kernel_rfl
set_option maxHeartbeats 8000000 in
theorem insert_end (l : List Int) (t : Int) (v : Value) (B0 vb : Nat) (w : World) (own : w.ownsRow B0 3 1 v l.length (intRow l)) (hvb : w.cell? ⟨vb, 0, none⟩ = some (.int .i64 t)) (hB0 : B0 ≤ w.heap.size) (hl : l.length ≤ 1000) :
    Calls Try.prog 64 #[v, .int .i64 l.length, .slice (some ⟨vb, 0, none⟩) 1 1] w (InsPost B0 w v (l ++ [t])) := by
  obtain ⟨inf, zv, hi, hz, hsize, hby, hzs⟩ := elem_i.is
  obtain ⟨v', w', hr, h2, h3, h4, h5⟩ := run_append_own_at (P := Try.prog) w B0 24 24 3 inf zv 1 8 Try.underlying24 hi hz hsize hby hzs (by decide) v l.length (intRow l) own ⟨vb, 0, none⟩ 1 1 [.int .i64 t] rfl (one_src hvb) (one_i t) (by unfold maxLen; omega) (by omega) hB0
  have HE : Hid (InsPost B0 w v (l ++ [t]) (.returned v') w') := ⟨v', rfl, by
    have e : intRow (l ++ [t]) = intRow l ++ [.int .i64 t] := by unfold intRow; rw [List.map_append]; rfl
    rw [e, List.length_append]
    exact h2, h3, h5⟩
  have HL := Lib.hid hl
  rcases own.2 with ⟨rfl, h0⟩ | ⟨g, cap, cur, rfl, hB, hg, h1, hc2, hc3, hc4⟩
  · rw [h0]
    clear own hvb hB0 hl h2 h3 h4 h5 h0 hi hz hsize hby hzs
    go_enter Try.func64, Try.ntmps64
    go_wp2_with (at_builtin; refine Lib.wpList_append_run _ rfl _ _ _ _ rfl _ _ rfl rfl _ _ hr ?_)
    go_ret
    exact HE.out
  · have hcap : l.length ≤ cap := h1
    have hn0 : (0 : Int) ≤ (l.length : Int) := by omega
    clear own hvb hB0 hl h2 h3 h4 h5 hi hz hsize hby hzs hB hg h1 hc2 hc3 hc4
    by_cases hcn : cap = l.length
    · subst hcn
      go_enter Try.func64, Try.ntmps64
      go_wp2_with (at_builtin; refine Lib.wpList_append_run _ rfl _ _ _ _ rfl _ _ rfl rfl _ _ hr ?_)
      go_ret
      exact HE.out
    · go_enter Try.func64, Try.ntmps64
      go_wp2_with (at_builtin; refine Lib.wpList_append_run _ rfl _ _ _ _ rfl _ _ rfl rfl _ _ hr ?_)
      go_ret
      exact HE.out
theorem step_copy_row {P : Program} {ops : Array Oper} {o : Oper} {a : Act} {w : World} {K : Act → World → Prop} {Q : Exit → Act → World → Prop} {E : Prop} (hgd : o.guard = none) (d s : Operand) (dT sT : TypeId)
    (ho : o.op = .call { callee := .builtin .copy, args := #[d, s], argTypes := #[dT, sT] }) (elem : TypeId) (hu : P.underlying dT = some (.slice elem)) (hsz : (P.info? elem).map (·.size) = some 1)
    (g off dLen dCap : Nat) (ad : Addr) (sLen sCap : Nat) (hd : a.eval d = .slice (some ⟨g, off, none⟩) dLen dCap) (hs : a.eval s = .slice (some ad) sLen sCap)
    (cur : List Value) (t : TypeId) (hg : w.heap[g]? = some (.cells cur.toArray t (0, 0))) (cs : List Value) (hn : cs.length = Nat.min sLen dLen)
    (hsrc : ∀ j v, cs[j]? = some v → w.cell? (ad.add j) = some v) (hfit : off + cs.length ≤ cur.length) (h1 : ∀ v ∈ cs, v.oneCell' = true)
    (h : ∀ w', Hid (w' = w.setRow g (splice cur off cs).toArray) → K (a.put o.dst (goInt cs.length)) w') :
    if Region.wanted o (yielded ops a.tmps) = true then Oper.wp P o a w K Q else E := by
  have hw : Region.wanted o (yielded ops a.tmps) = true := by simp [Region.wanted, hgd]
  rw [if_pos hw]
  have hrun := run_copy_row (P := P) w dT sT o.type elem g off dLen dCap ad sLen sCap cur.toArray t cs hu hsz hg hn hsrc (by simpa using hfit) h1
  unfold Oper.wp
  simp [execOp, ho, resolve, invoke, builtin, hd, hs, hrun, Result.andThen]
  exact h _ (show _ = _ by unfold splice; simp)
theorem wpList_copy_row {P : Program} {w : World} {ops : Array Oper} {rest : List Oper} {o : Oper} {a : Act} {Q : Exit → Act → World → Prop} (hgd : o.guard = none) (d s : Operand) (dT sT : TypeId)
    (ho : o.op = .call { callee := .builtin .copy, args := #[d, s], argTypes := #[dT, sT] }) (elem : TypeId) (hu : P.underlying dT = some (.slice elem)) (hsz : (P.info? elem).map (·.size) = some 1)
    (g off dLen dCap : Nat) (ad : Addr) (sLen sCap : Nat) (hd : a.eval d = .slice (some ⟨g, off, none⟩) dLen dCap) (hs : a.eval s = .slice (some ad) sLen sCap)
    (cur : List Value) (t : TypeId) (hg : w.heap[g]? = some (.cells cur.toArray t (0, 0))) (cs : List Value) (hn : cs.length = Nat.min sLen dLen)
    (hsrc : ∀ j v, cs[j]? = some v → w.cell? (ad.add j) = some v) (hfit : off + cs.length ≤ cur.length) (h1 : ∀ v ∈ cs, v.oneCell' = true)
    (h : ∀ w', Hid (w' = w.setRow g (splice cur off cs).toArray) → wpList P ops Q rest (a.put o.dst (goInt cs.length)) w') : wpList P ops Q (o :: rest) a w := by
  refine wpList_copy_own hgd d s dT sT ho elem hu hsz g off dLen dCap ad sLen sCap hd hs cur.toArray t hg cs hn hsrc (by simpa using hfit) h1 ?_
  exact h _ (show _ = _ by unfold splice; simp)
theorem splice_mid {α : Type} {A X R C : List α} (h : X.length = C.length) {o : Nat} (ho : A.length = o) : splice (A ++ (X ++ R)) o C = A ++ (C ++ R) := by
  subst ho
  unfold splice
  rw [List.take_append_of_le_length (Nat.le_refl _), List.take_of_length_le (Nat.le_refl _), List.drop_append, List.drop_of_length_le (by omega), List.nil_append, Nat.add_sub_cancel_left, ← h, List.drop_append, List.drop_of_length_le (Nat.le_refl _), List.nil_append, Nat.sub_self, List.drop_zero]
theorem ins_rows (l : List Int) (i : Nat) (t : Int) (x : Value) (rest : List Value) (hil : i < l.length) :
    splice (splice (encRow encI l ++ (x :: rest)) (i + 1) (encRow encI (l.drop i))) i (encRow encI [t]) = encRow encI (insI l i t) ++ rest := by
  have lA : (encRow encI (l.take i)).length = i := by rw [encRow_len encI_len, List.length_take, Nat.mul_one, Nat.min_eq_left (by omega)]
  have e0 : l = l.take i ++ (l[i] :: l.drop (i + 1)) := by rw [List.getElem_cons_drop, List.take_append_drop]
  have eD : l.drop i = l[i] :: l.drop (i + 1) := (List.getElem_cons_drop hil).symm
  have e1 : encRow encI l ++ (x :: rest) = (encRow encI (l.take i) ++ encI l[i]) ++ ((encRow encI (l.drop (i + 1)) ++ [x]) ++ rest) := by
    conv => lhs; rw [e0]
    rw [encRow_append]
    show encRow encI (l.take i) ++ (encI l[i] ++ encRow encI (l.drop (i + 1))) ++ (x :: rest) = _
    simp
  have lD : (encRow encI (l.drop i)).length = l.length - i := by rw [encRow_len encI_len, List.length_drop, Nat.mul_one]
  rw [e1, splice_mid (by rw [List.length_append, encRow_len encI_len, List.length_drop, lD]; simp; omega) (by rw [List.length_append, lA, encI_len]), List.append_assoc, splice_mid (by rw [encRow_len encI_len, encI_len]; rfl) lA]
  unfold insI
  rw [encRow_append]
  show _ = (encRow encI (l.take i) ++ (encI t ++ encRow encI (l.drop i))) ++ rest
  show encRow encI (l.take i) ++ ((encI t ++ []) ++ _) = _
  simp
theorem sizeOf_int (W : World) : (Go.sizeOf 3).run Try.prog W = .ok 1 W := by kernel_rfl
theorem overlaps_no (t : Value) (vb g o c1 c2 : Nat) (cur : Array Value) (W : World) (hvb : W.heap[vb]? = some (.cells #[t] 3 (0, 0))) (hg : W.heap[g]? = some (.cells cur 3 (0, 0))) (hne : vb ≠ g) (h0 : cur.size ≠ 0) :
    (callFunc 77 #[.slice (some ⟨vb, 0, none⟩) 1 1, .slice (some ⟨g, o, none⟩) c1 c2]).run Try.prog W = .ok (.value (.bool false)) W := by
  rw [run_callFunc_extern Try.func77 (by kernel_rfl) (by kernel_rfl) (by kernel_rfl) (e := Extern.SlicesOverlaps.overlaps #[24, 24] #[4]) (by kernel_rfl),
    Lib.run_overlaps_apart W 24 4 3 Try.underlying24 1 sizeOf_int ⟨vb, 0, none⟩ ⟨g, o, none⟩ 1 1 c1 c2 hne 3 3 1 cur.size (by unfold World.shape?; rw [hvb]; rfl) (by unfold World.shape?; rw [hg]) h0 (frozen_of_row _ _ _ _ _ hvb) (frozen_of_row _ _ _ _ _ hvb)]
  rfl
set_option maxHeartbeats 8000000 in
theorem insert_room (l : List Int) (t : Int) (i g cap vb : Nat) (rest : List Value) (x : Value) (B0 : Nat) (w : World) (hil : i < l.length) (hB : B0 ≤ g) (hg : w.heap[g]? = some (.cells (encRow encI l ++ (x :: rest)).toArray 3 (0, 0))) (hlen : (encRow encI l ++ (x :: rest)).length = cap) (hcm : cap ≤ maxLen)
    (hvb : w.heap[vb]? = some (.cells #[.int .i64 t] 3 (0, 0))) (hne : vb ≠ g) (hl : l.length ≤ 1000) :
    Calls Try.prog 64 #[.slice (some ⟨g, 0, none⟩) l.length cap, .int .i64 i, .slice (some ⟨vb, 0, none⟩) 1 1] w (InsPost B0 w (.slice (some ⟨g, 0, none⟩) l.length cap) (insI l i t)) := by
  have hll := encRow_len encI_len l
  have hroom : l.length + 1 ≤ cap := by
    rw [← hlen, List.length_append, hll, List.length_cons]; omega
  have hov : ∀ c1 c2, (callFunc 77 #[.slice (some ⟨vb, 0, none⟩) 1 1, .slice (some ⟨g, i + 1, none⟩) c1 c2]).run Try.prog w = .ok (.value (.bool false)) w := fun c1 c2 => overlaps_no _ vb g _ c1 c2 _ w hvb hg hne (by rw [List.size_toArray, hlen]; omega)
  have HIns := Lib.hid (ins_rows l i t x rest hil)
  have HLen := Lib.hid hlen
  have HG : Hid (w.drew.heap[g]? = some (.cells (encRow encI l ++ (x :: rest)).toArray 3 (0, 0))) := hg
  have lD : (encRow encI (l.drop i)).length = l.length - i := by rw [encRow_len encI_len, List.length_drop, Nat.mul_one]
  have H1 : Hid ((encRow encI (l.drop i)).length = Nat.min (l.length + 1 - i) (l.length - i)) := by show _ = _; rw [lD]; simp only [Nat.min_def]; split <;> omega
  have H2 : Hid (∀ j v, (encRow encI (l.drop i))[j]? = some v → w.drew.cell? ((⟨g, i, none⟩ : Addr).add j) = some v) := row_src (W := w.drew) hg i (fun j v hj => by
    have e2 : encRow encI l = encRow encI (l.take i) ++ encRow encI (l.drop i) := by rw [← encRow_append, List.take_append_drop]
    have lA : (encRow encI (l.take i)).length = i := by rw [encRow_len encI_len, List.length_take, Nat.mul_one, Nat.min_eq_left (by omega)]
    rw [e2, List.append_assoc, List.getElem?_append_right (by omega), lA, Nat.add_sub_cancel_left, List.getElem?_append_left (List.getElem?_eq_some_iff.1 hj).1]
    exact hj)
  have H3 : Hid ((i + 1) + (encRow encI (l.drop i)).length ≤ (encRow encI l ++ (x :: rest)).length) := by show _ ≤ _; rw [lD, hlen]; omega
  have H4 : Hid (∀ v ∈ encRow encI (l.drop i), v.oneCell' = true) := fun v hv => by
    obtain ⟨y, _, hy⟩ := List.mem_flatMap.1 hv
    exact one_intl y v hy
  have HV : Hid (w.heap[vb]? = some (.cells #[.int .i64 t] 3 (0, 0)) ∧ vb < w.heap.size ∧ vb ≠ g) := ⟨hvb, (Array.getElem?_eq_some_iff.1 hvb).1, hne⟩
  have HN : Hid (i < l.length ∧ l.length ≤ 1000 ∧ l.length + 1 ≤ cap ∧ cap ≤ maxLen ∧ B0 ≤ g) := ⟨hil, hl, hroom, hcm, hB⟩
  have hz2 : ((i : Int) == (l.length : Int)) = false := by rw [beq_eq_false_iff_ne]; omega
  have hi0 : (0 : Int) ≤ (i : Int) := by omega
  have hin : (i : Int) ≤ (l.length : Int) := by omega
  have hlm : (l.length : Int) < 1001 := by omega
  have hc1 : ¬ (cap : Int) < (l.length : Int) + 1 := by omega
  have hc2 : (l.length : Int) + 1 ≤ (cap : Int) := by omega
  have hc3 : ¬ cap = i := by omega
  have hc4 : ¬ cap = i + 1 := by omega
  have hin1 : (i : Int) + 1 ≤ (l.length : Int) + 1 := by omega
  have hi01 : (0 : Int) ≤ (i : Int) + 1 := by omega
  have hin2 : (i : Int) ≤ (l.length : Int) + 1 := by omega
  have hw1 : IntKind.i64.wrap ((l.length : Int) + 1) = ((l.length + 1 : Nat) : Int) := by rw [IntKind.wrap_i64]; omega
  have hw2 : IntKind.i64.wrap ((i : Int) + 1) = ((i + 1 : Nat) : Int) := by rw [IntKind.wrap_i64]; omega
  clear hll hroom hil hlen hcm hvb hne hl hB hg lD
  go_enter Try.func64, Try.ntmps64
  go_wp2_with (simp only [hov])
  clear hov
  go_region_law (refine step_copy_row rfl (.tmp 73) (.tmp 76) 24 24 rfl 3 Try.underlying24 info_int1 g (i + 1) (l.length - i) (cap - (i + 1)) ⟨g, i, none⟩ (l.length + 1 - i) (cap - i) (by simp [Act.eval, Act.put]) (by simp [Act.eval, Act.put]) (encRow encI l ++ (x :: rest)) 3 HG.out (encRow encI (l.drop i)) H1.out H2.out H3.out H4.out ?_; intro w4 hw4)
  have HG4 : Hid (w4.heap[g]? = some (.cells (splice (encRow encI l ++ (x :: rest)) (i + 1) (encRow encI (l.drop i))).toArray 3 (0, 0))) := by
    show _ = _
    rw [hw4.out]
    exact setRow_heap _ _ _ _ _ _ HG.out
  have HB4 : Hid (w.grownBy w4 (some g)) := by show World.grownBy _ _ _; rw [hw4.out]; exact @grown_trans w w.drew _ _ ⟨rfl, rfl, rfl, Nat.le_refl _, fun _ _ _ => rfl⟩ (grown_setRow w.drew g _)
  have HV4 : Hid (w4.cell? ⟨vb, 0, none⟩ = some (.int .i64 t)) := by
    show _ = _
    rw [cell_of_row w4 vb 0 _ _ _ ((HB4.out.block vb HV.out.2.1 (fun e => HV.out.2.2 (Option.some.inj e))).trans HV.out.1)]
    rfl
  have hl4 : (splice (encRow encI l ++ (x :: rest)) (i + 1) (encRow encI (l.drop i))).length = cap := by rw [length_splice _ _ _ H3.out, HLen.out]
  have H5 : Hid (i + (encRow encI [t]).length ≤ (splice (encRow encI l ++ (x :: rest)) (i + 1) (encRow encI (l.drop i))).length) := by
    show _ ≤ _
    rw [hl4]
    have := HN.out
    show i + 1 ≤ cap
    omega
  have H6 : Hid ((encRow encI [t]).length = Nat.min 1 (l.length + 1 - i)) := by
    show (1 : Nat) = _
    have := HN.out
    simp only [Nat.min_def]
    split <;> omega
  clear hw4 hl4 H1 H2 H3 H4 HG
  go_wp2_with (first | ((with_reducible refine wpList_copy_row rfl (.tmp 80) (.tmp 81) 24 24 rfl 3 Try.underlying24 info_int1 g i (l.length + 1 - i) (cap - i) ⟨vb, 0, none⟩ 1 1 ?_ ?_ (splice (encRow encI l ++ (x :: rest)) (i + 1) (encRow encI (l.drop i))) 3 HG4.out (encRow encI [t]) H6.out ?_ H5.out ?_ ?_); (exact rfl); (exact rfl); (exact one_src HV4.out); (exact one_i t)))
  intro w5 hw5
  have HG5 : Hid (w5.heap[g]? = some (.cells (encRow encI (insI l i t) ++ rest).toArray 3 (0, 0))) := by
    show _ = _
    rw [hw5.out, HIns.out]
    exact setRow_heap _ _ _ _ _ _ HG4.out
  have HB5 : Hid (w.grownBy w5 (some g)) := by rw [hw5.out]; exact grown_trans HB4.out (grown_setRow w4 g _)
  have HL5 : Hid ((encRow encI (insI l i t ++ []) ++ rest).length = cap * 1) := by
    show _ = _
    have := HLen.out
    rw [List.length_append, encRow_len encI_len, List.length_cons] at this
    rw [List.append_nil, List.length_append, encRow_len encI_len, insI_len]
    omega
  clear hw5
  go_wp2_with fail
  go_ret
  have hlen5 := insI_len l i t
  refine ⟨_, rfl, ?_, HB5.out, .inl rfl⟩
  rw [hlen5, ← hlen5, intRow_enc]
  have h := own_close (m := []) encI_len HN.out.2.2.2.2 (by rw [List.append_nil]; exact HG5.out) (by rw [hlen5]; exact HN.out.2.2.1) HN.out.2.2.2.1 HL5.out
  rw [hlen5] at h ⊢
  exact h
end Go.Proofs.Ytlmbnofkmmehoaa
