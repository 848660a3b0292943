/- what the laws of chapter 3 begin with -/
import Derived.Test.YtbadfcnkpeohfaaChJoin
import Derived.Test.YtbadfcnkpeohfaaChApply
import Derived.Test.YtbadfcnkpeohfaaDrChg
import Derived.Deep.DeepCutAuto
namespace Go.Proofs.Ytbadfcnkpeohfaa
open Go.RowKit

def exCh : Chg := ⟨0, 0, emptyCl, ⟨true, ⟨#[120]⟩⟩⟩
set_option maxHeartbeats 1000000 in
theorem awake_ch (w : World) : Calls Try.prog 7 #[] w fun e w' => e = .returned (.bool true) ∧ Below w.heap.size w w' := by
  have HI : Hid (∀ W, Calls Try.prog 17 #[.agg #[.int .i64 0, .int .i64 0, .bool false, .string ⟨#[]⟩, .bool true, .string ⟨#[120]⟩]] W fun e w' => e = .returned (.agg (chCells (invR exCh)).toArray) ∧ Below W.heap.size W w') := fun W => inverse_any exCh W
  have HV : Hid (∀ W, Calls Try.prog 15 #[.agg (chCells (invR exCh)).toArray] W fun e w' => e = .returned (.bool true) ∧ Below W.heap.size W w') := fun W => valid_ch (invR exCh) W (by decide) (by decide)
  obtain ⟨fs, hu⟩ := under_ch
  have HU := Lib.hid hu
  clear hu
  go_enter Try.func7, Try.ntmps7
  go_wp2_with fail
  refine (HI.out _).mono ?_
  rintro e w2 ⟨rfl, hb2⟩
  have HF2 := Lib.hid ((Fr.start w).calls hb2)
  clear hb2
  have HF3 : Hid (Fr w [⟨w2.heap.size, 29, chCells (invR exCh)⟩] (w2.alloc (.cells (chCells (invR exCh)).toArray 29))) := HF2.out.put _ _
  have HE : Hid ((w2.alloc (.cells (chCells chNil).toArray 29)).setRow w2.heap.size (chCells (invR exCh)).toArray = w2.alloc (.cells (chCells (invR exCh)).toArray 29)) := World.setRow_alloc_new _ _ _ _
  have HGa : Hid ((w2.alloc (.cells (chCells chNil).toArray 29)).heap[w2.heap.size]? = some (.cells (chCells chNil).toArray 29 (0, 0))) := heap_alloc_last _ _
  have HF4 : Hid (Fr w [⟨w2.heap.size, 29, chCells (invR exCh)⟩] ((w2.alloc (.cells (chCells chNil).toArray 29)).setRow w2.heap.size (chCells (invR exCh)).toArray)) := by
    rw [HE.out]; exact HF3.out
  have c2 : ((w2.alloc (.cells (chCells chNil).toArray 29)).setRow w2.heap.size (chCells (invR exCh)).toArray).cell? ⟨w2.heap.size, 2 + 1, none⟩ = some (.string ⟨#[120]⟩) := (HF4.out.at 0 rfl).at 3 rfl
  have c3 : ((w2.alloc (.cells (chCells chNil).toArray 29)).setRow w2.heap.size (chCells (invR exCh)).toArray).cell? ⟨w2.heap.size, 3, none⟩ = some (.string ⟨#[120]⟩) := (HF4.out.at 0 rfl).at 3 rfl
  have c4 : ((w2.alloc (.cells (chCells chNil).toArray 29)).setRow w2.heap.size (chCells (invR exCh)).toArray).cell? ⟨w2.heap.size, 4, none⟩ = some (.bool false) := (HF4.out.at 0 rfl).at 4 rfl
  go_wp2_with (first | ((with_reducible refine wpList_alloc_ob 29 (chCells chNil) ?_ ?_); (exact alloc_ch); simp only [Act.put, List.setIfInBounds_toArray, List.set_cons_zero, List.set_cons_succ]) | ((with_reducible refine wpList_store_ob 29 (.tmp 1) w2.heap.size (chCells (invR exCh)) (chCells chNil) 29 ?_ ?_ ?_ ?_ ?_ ?_ ?_); (exact rfl); (exact rfl); (exact HGa.out); (exact info_ch); (exact rfl); (exact oneCell_ch _); skip) | ((with_reducible refine wpList_load_ob_w 29 (.tmp 1) w2.heap.size (chCells (invR exCh)) 29 HU.out ?_ ?_ ?_ ?_ ?_ ?_); (exact rfl); (exact rfl); (exact HF4.out.get 0 rfl); (exact rfl); (exact info_ch); simp only [Act.put, List.setIfInBounds_toArray, List.set_cons_zero, List.set_cons_succ]))
  refine (HV.out _).mono ?_
  rintro e w3 ⟨rfl, hb3⟩
  have HF5 := Lib.hid (HF4.out.calls hb3)
  clear hb3
  go_wp2_with fail
  go_ret
  exact ⟨rfl, HF5.out.old⟩
theorem apply_at {p q : Pg} {c : Chg} {n : Int} (h : applyR p c = (q, n)) (hp : Good p) (hc : GoodCh c) (w : World) :
    Calls Try.prog 22 #[.agg (pgCells p).toArray, .agg (chCells c).toArray] w fun e w' => e = .returned (.tuple #[.agg (pgCells q).toArray, .int .i64 n]) ∧ Below w.heap.size w w' := by
  have := apply_any p c w hp hc
  rw [h] at this
  exact this
theorem join_at {a b c : Chg} {n : Int} (h : joinR a b = (c, n)) (ha : GoodCh a) (hb : GoodCh b) (w : World) :
    Calls Try.prog 13 #[.agg (chCells a).toArray, .agg (chCells b).toArray] w fun e w' => e = .returned (.tuple #[.agg (chCells c).toArray, .int .i64 n]) ∧ Below w.heap.size w w' := by
  have := join_any a b w ha hb
  rw [h] at this
  exact this
theorem apply_ok {p : Pg} {c : Chg} (k : Nat) (h : chOkB c = true) (hk : c.slot = k) (hp : c.page = p.id) (hb : p.cells.getD k emptyCl = c.before) : applyR p c = (⟨p.id, p.lsn, p.cells.set k c.after⟩, 0) := by
  have hn : c.slot.toNat = k := by omega
  unfold applyR
  rw [if_neg (by rw [h]; decide), hp, sameV_self, if_neg (by decide), hn, hb, sameV_self, if_neg (by decide)]
theorem join_ok {a b : Chg} (ha : chOkB a = true) (hb : chOkB b = true) (hp : a.page = b.page) (hs : a.slot = b.slot) (h : b.before = a.after) : joinR a b = (⟨a.page, a.slot, a.before, b.after⟩, 0) := by
  unfold joinR
  rw [if_neg (by rw [ha, hb]; decide), hp, hs, sameV_self, if_neg (by decide), h, sameV_self, if_neg (by decide)]
theorem Drawn.cellOk {p : Pg} {id : Int} (h : Drawn p id) (k : Nat) : cellOkB (p.cells.getD k emptyCl) = true := by
  by_cases hk : k < p.cells.length
  · rw [getD_eq hk]
    have := h.cells
    unfold cellsB at this
    rw [List.all_eq_true] at this
    have := this _ (List.getElem_mem hk)
    unfold cellB at this
    simp only [Bool.and_eq_true] at this
    exact this.1
  · rw [List.getD_eq_getElem?_getD, List.getElem?_eq_none (by omega)]; decide
theorem getD_set {l : List Cl} {k : Nat} (h : k < l.length) (c : Cl) : (l.set k c).getD k emptyCl = c := by
  rw [List.getD_eq_getElem?_getD, List.getElem?_set_self h]; rfl
theorem set_back {l : List Cl} {k : Nat} (h : k < l.length) (a : Cl) : (l.set k a).set k (l.getD k emptyCl) = l := by
  rw [List.set_set, getD_eq h, List.set_getElem_self]
/-- what ChangeBack's calls answer -/
structure BackFacts (p P1 P2 : Pg) (A B J : Chg) : Prop where
  gp : Good p
  g1 : Good P1
  g2 : Good P2
  ga : GoodCh A
  gb : GoodCh B
  gj : GoodCh J
  pa : applyR p A = (P1, 0)
  pb : applyR P1 B = (P2, 0)
  pi : applyR P1 (invR A) = (p, 0)
  jab : joinR A B = (J, 0)
  pj : applyR p J = (P2, 0)
  jinv : joinR (invR B) (invR A) = (invR J, 0)
theorem back_facts {p : Pg} (hp : Drawn p 1) (k : Nat) (hk : k < 16) {c aa ba : Cl} (hc : p.cells.getD k emptyCl = c) (ha : cellOkB aa = true) (hb : cellOkB ba = true) :
    BackFacts p ⟨p.id, p.lsn, p.cells.set k aa⟩ ⟨p.id, p.lsn, p.cells.set k ba⟩ ⟨1, (k : Int), c, aa⟩ ⟨1, (k : Int), aa, ba⟩ ⟨1, (k : Int), c, ba⟩ := by
  have hkl : k < p.cells.length := by rw [hp.len]; exact hk
  have hkl' : k < (p.cells.set k aa).length := by rw [List.length_set]; exact hkl
  have hco : cellOkB c = true := by rw [← hc]; exact hp.cellOk k
  have hpg := hp.good (by omega) (by omega)
  have hid := hp.id
  have okA : chOkB ⟨1, (k : Int), c, aa⟩ = true := chOk_of (by show (0 : Int) ≤ 1; omega) (by show (1 : Int) < 64; omega) (by show (0 : Int) ≤ k; omega) (by show (k : Int) < 16; omega) hco ha
  have okB : chOkB ⟨1, (k : Int), aa, ba⟩ = true := chOk_of (by show (0 : Int) ≤ 1; omega) (by show (1 : Int) < 64; omega) (by show (0 : Int) ≤ k; omega) (by show (k : Int) < 16; omega) ha hb
  have okJ : chOkB ⟨1, (k : Int), c, ba⟩ = true := chOk_of (by show (0 : Int) ≤ 1; omega) (by show (1 : Int) < 64; omega) (by show (0 : Int) ≤ k; omega) (by show (k : Int) < 16; omega) hco hb
  refine ⟨hpg, good_set hpg k (small_le (by have := cellOk_small ha; omega)), good_set hpg k (small_le (by have := cellOk_small hb; omega)), chOk_good okA, chOk_good okB, chOk_good okJ, ?_, ?_, ?_, ?_, ?_, ?_⟩
  · exact apply_ok k okA rfl hid.symm hc
  · have := apply_ok (p := ⟨p.id, p.lsn, p.cells.set k aa⟩) k okB rfl hid.symm (getD_set hkl aa)
    rw [this, List.set_set]
  · have := apply_ok (p := ⟨p.id, p.lsn, p.cells.set k aa⟩) (c := invR ⟨1, (k : Int), c, aa⟩) k (by rw [inv_ok]; exact okA) rfl hid.symm (getD_set hkl aa)
    rw [this]
    show ((⟨p.id, p.lsn, (p.cells.set k aa).set k c⟩ : Pg), (0 : Int)) = (p, 0)
    rw [← hc, set_back hkl]
  · exact join_ok okA okB rfl rfl rfl
  · exact apply_ok k okJ rfl hid.symm hc
  · exact join_ok (a := invR ⟨1, (k : Int), aa, ba⟩) (b := invR ⟨1, (k : Int), c, aa⟩) (by rw [inv_ok]; exact okB) (by rw [inv_ok]; exact okA) rfl rfl rfl
end Go.Proofs.Ytbadfcnkpeohfaa
