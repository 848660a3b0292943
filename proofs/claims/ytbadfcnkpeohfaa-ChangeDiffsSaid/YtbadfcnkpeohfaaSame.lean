/- slices of changes, and the walk of Same -/
import Derived.Test.YtbadfcnkpeohfaaDiff
import Derived.Test.YtbadfcnkpeohfaaDfTodo
namespace Go.Proofs.Ytbadfcnkpeohfaa
open Go.RowKit

/-- a slice that reads as a list of changes -/
def SlIs (W : World) (v : Value) (l : List Chg) : Prop := ∃ a cap, v = .slice a l.length cap ∧ (0 < l.length → ∃ g, a = some ⟨g, 0, none⟩ ∧ l.length ≤ cap ∧ cap ≤ maxLen ∧ ChRow W g 0 l)
theorem slIs_own {B : Nat} {W : World} {v : Value} {l : List Chg} (h : W.ownsRow B 29 6 v l.length (l.flatMap chCells)) : SlIs W v l := by
  rcases h.2 with ⟨hv, h0⟩ | ⟨g, cap, cur, hv, hB, hg, h1, h2, h3⟩
  · exact ⟨none, 0, by rw [hv, h0], fun h => by omega⟩
  · exact ⟨_, cap, hv, fun _ => ⟨g, rfl, h1, h2, chRow_own h hv⟩⟩
set_option maxHeartbeats 4000000 in
theorem same_none (a b : Option Addr) (c d : Nat) (w : World) : Calls Try.prog 26 #[.slice a 0 c, .slice b 0 d] w fun e w' => e = .returned (.bool true) ∧ Below w.heap.size w w' := by
  go_enter Try.func26, Try.ntmps26
  go_wp2_with fail
  go_loopw [5] (fun i wr => i = .int .i64 0 ∧ Below w.heap.size w wr) (fun _ _ => 0)
  case atStart => exact ⟨rfl, Below.refl _ _⟩
  case round =>
    obtain ⟨rfl, hb⟩ := hrel
    have HB := Lib.hid hb
    clear hb
    go_wp2_with fail
    go_ret
    exact ⟨rfl, HB.out⟩
set_option maxHeartbeats 4000000 in
theorem same_some (g g2 c d n : Nat) (l : List Chg) (w : World) (h1 : ChRow w g 0 l) (h2 : ChRow w g2 0 l) (hn : l.length = n) (h16 : n ≤ 16) (hg : ∀ x ∈ l, GoodCh x) : Calls Try.prog 26 #[.slice (some ⟨g, 0, none⟩) n c, .slice (some ⟨g2, 0, none⟩) n d] w fun e w' => e = .returned (.bool true) ∧ Below w.heap.size w w' := by
  have HR1 := Lib.hid h1
  have HR2 := Lib.hid h2
  have HN := Lib.hid hn
  have HG := Lib.hid hg
  have hni : (n : Int) ≤ 16 := by omega
  clear h1 h2 hn hg
  obtain ⟨fs, hu⟩ := under_ch
  have HU := Lib.hid hu
  clear hu
  obtain ⟨fp, hu⟩ := under_page
  have HUP := Lib.hid hu
  clear hu
  obtain ⟨fc, hu⟩ := under_cell
  have HUC := Lib.hid hu
  clear hu
  go_enter Try.func26, Try.ntmps26
  go_wp2_with fail
  go_loopw [5] (fun i wr => ∃ k : Nat, k ≤ n ∧ i = .int .i64 k ∧ Below w.heap.size w wr) (fun i _ => n - (intOf i).toNat)
  case atStart => exact ⟨0, by omega, rfl, Below.refl _ _⟩
  case round =>
    obtain ⟨k, hk, rfl, hb⟩ := hrel
    have HB := Lib.hid hb
    clear hb
    by_cases hlt : k < n
    · have hki : (k : Int) < (n : Int) := by omega
      have hk0 : (0 : Int) ≤ (k : Int) := by omega
      obtain ⟨x, hx⟩ : ∃ x, l[k]? = some x := ⟨_, List.getElem?_eq_getElem (by rw [HN.out]; exact hlt)⟩
      have HX := Lib.hid hx
      have hxx := neq_ch x (HG.out x (List.mem_of_getElem? hx))
      clear hx
      go_upto_region 6 with (fail)
      have HA1 : Hid (wr.drew.rangeAt g (k * 6) (chCells x)) := chRow_at (HR1.out.below (HB.out).drew HR1.out.1) HX.out
      have HA2 : Hid (wr.drew.rangeAt g2 (k * 6) (chCells x)) := chRow_at (HR2.out.below (HB.out).drew HR2.out.1) HX.out
      refine wp_region_held_drew (S := fun w' => w'.rangeAt g (k * 6) (chCells x) ∧ w'.rangeAt g2 (k * 6) (chCells x)) (by kernel_rfl) (⟨HA1.out, HA2.out⟩) (fun hHeld => ?_)
      refine wpAnyH_take (i := 0) (oi := { dst := some 17, op := Op.move (Operand.tmp 0), type := 51, pos := "ref.go:73", after := #[], guard := none }) (v := ?q1v) rfl (by kernel_rfl) (by kernel_rfl) (by kernel_rfl) (fun _ _ _ h => h) (Or.inl ⟨by rfl, ?q1h⟩) hHeld ?q1r
      case q1h => (intro wq hSw; clear hSw; go_simp; try with_reducible rfl)
      try simp only [Act.put, List.setIfInBounds_toArray, List.set_cons_zero, List.set_cons_succ]
      refine wpAnyH_take (i := 1) (oi := { dst := some 18, op := Op.move (Operand.tmp 5), type := 3, pos := "ref.go:73", after := #[], guard := none }) (v := ?q2v) rfl (by kernel_rfl) (by kernel_rfl) (by kernel_rfl) (fun _ _ _ h => h) (Or.inl ⟨by rfl, ?q2h⟩) hHeld ?q2r
      case q2h => (intro wq hSw; clear hSw; go_simp; try with_reducible rfl)
      try simp only [Act.put, List.setIfInBounds_toArray, List.set_cons_zero, List.set_cons_succ]
      refine wpAnyH_take (i := 2) (oi := { dst := some 19, op := Op.indexAddr 51 (Operand.tmp 17) (Operand.tmp 18), type := 0, pos := "ref.go:73", after := #[{ on := 0, ground := Ground.data }, { on := 1, ground := Ground.data }], guard := none }) (v := ?q3v) rfl (by kernel_rfl) (by kernel_rfl) (by kernel_rfl) (fun _ _ _ h => h) (Or.inl ⟨by rfl, ?q3h⟩) hHeld ?q3r
      case q3h => (intro wq hSw; clear hSw; go_simp; try with_reducible rfl)
      try simp only [Act.put, List.setIfInBounds_toArray, List.set_cons_zero, List.set_cons_succ]
      refine wpAnyH_take (i := 3) (oi := { dst := some 20, op := Op.load 29 (Operand.tmp 19), type := 29, pos := "ref.go:73", after := #[{ on := 2, ground := Ground.data }], guard := none }) rfl (by kernel_rfl) (by kernel_rfl) (by kernel_rfl) (fun _ _ _ h => h) (yieldsIf_load_mid (by rfl) 29 (.tmp 19) rfl g (k * 6) rfl (chCells x) _ (fun _ h => h.1) HU.out rfl (info_ch)) hHeld ?_
      try simp only [Act.put, List.setIfInBounds_toArray, List.set_cons_zero, List.set_cons_succ]
      refine wpAnyH_take (i := 4) (oi := { dst := some 21, op := Op.move (Operand.tmp 1), type := 51, pos := "ref.go:73", after := #[], guard := none }) (v := ?q5v) rfl (by kernel_rfl) (by kernel_rfl) (by kernel_rfl) (fun _ _ _ h => h) (Or.inl ⟨by rfl, ?q5h⟩) hHeld ?q5r
      case q5h => (intro wq hSw; clear hSw; go_simp; try with_reducible rfl)
      try simp only [Act.put, List.setIfInBounds_toArray, List.set_cons_zero, List.set_cons_succ]
      refine wpAnyH_take (i := 5) (oi := { dst := some 22, op := Op.move (Operand.tmp 5), type := 3, pos := "ref.go:73", after := #[], guard := none }) (v := ?q6v) rfl (by kernel_rfl) (by kernel_rfl) (by kernel_rfl) (fun _ _ _ h => h) (Or.inl ⟨by rfl, ?q6h⟩) hHeld ?q6r
      case q6h => (intro wq hSw; clear hSw; go_simp; try with_reducible rfl)
      try simp only [Act.put, List.setIfInBounds_toArray, List.set_cons_zero, List.set_cons_succ]
      refine wpAnyH_take (i := 6) (oi := { dst := some 23, op := Op.indexAddr 51 (Operand.tmp 21) (Operand.tmp 22), type := 0, pos := "ref.go:73", after := #[{ on := 4, ground := Ground.data }, { on := 5, ground := Ground.data }], guard := none }) (v := ?q7v) rfl (by kernel_rfl) (by kernel_rfl) (by kernel_rfl) (fun _ _ _ h => h) (Or.inl ⟨by rfl, ?q7h⟩) hHeld ?q7r
      case q7h => (intro wq hSw; clear hSw; go_simp; try with_reducible rfl)
      try simp only [Act.put, List.setIfInBounds_toArray, List.set_cons_zero, List.set_cons_succ]
      refine wpAnyH_take (i := 7) (oi := { dst := some 24, op := Op.load 29 (Operand.tmp 23), type := 29, pos := "ref.go:73", after := #[{ on := 6, ground := Ground.data }], guard := none }) rfl (by kernel_rfl) (by kernel_rfl) (by kernel_rfl) (fun _ _ _ h => h) (yieldsIf_load_mid (by rfl) 29 (.tmp 23) rfl g2 (k * 6) rfl (chCells x) _ (fun _ h => h.2) HU.out rfl (info_ch)) hHeld ?_
      try simp only [Act.put, List.setIfInBounds_toArray, List.set_cons_zero, List.set_cons_succ]
      refine wpAnyH_take (i := 8) (oi := { dst := some 25, op := Op.binOp BinOp.neq 29 (Operand.tmp 20) (Operand.tmp 24) 29, type := 4, pos := "ref.go:73", after := #[{ on := 3, ground := Ground.data }, { on := 7, ground := Ground.data }], guard := none }) (v := ?q9v) rfl (by kernel_rfl) (by kernel_rfl) (by kernel_rfl) (fun _ _ _ h => h) (Or.inl ⟨by rfl, ?q9h⟩) hHeld ?q9r
      case q9h => (intro wq hSw; clear hSw; go_simp; try with_reducible rfl)
      try simp only [Act.put, List.setIfInBounds_toArray, List.set_cons_zero, List.set_cons_succ]
      refine wpAnyH_done (by kernel_rfl) ?_ _
      go_wp2_with fail
      go_roundw
      case rel => exact ⟨k + 1, by omega, by go_num, (HB.out).drew⟩
      case measure => simp [intOf]; omega
    · obtain rfl : k = n := by omega
      go_wp2_with fail
      go_ret
      exact ⟨rfl, HB.out⟩
theorem same_any {v u : Value} {l : List Chg} (w : World) (hv : SlIs w v l) (hu : SlIs w u l) (h16 : l.length ≤ 16) (hg : ∀ x ∈ l, GoodCh x) : Calls Try.prog 26 #[v, u] w fun e w' => e = .returned (.bool true) ∧ Below w.heap.size w w' := by
  obtain ⟨a, c, rfl, ha⟩ := hv
  obtain ⟨b, d, rfl, hb⟩ := hu
  by_cases h0 : 0 < l.length
  · obtain ⟨g, rfl, _, _, h1⟩ := ha h0
    obtain ⟨g2, rfl, _, _, h2⟩ := hb h0
    exact same_some g g2 c d l.length l w h1 h2 rfl h16 hg
  · have : l.length = 0 := by omega
    rw [this]
    exact same_none a b c d w
end Go.Proofs.Ytbadfcnkpeohfaa
