/- texts of a claim, one after the other: the walks of Put and Get of the program, the walks of Put and Get of the reference, the sanity check, and the law CodecNumbers: what the program answers is what the reference answers, for every text and all numbers, the walk of the checksum of the reference: CRC-32C of the bytes, the walks of Frame and Unframe, of the program and of the reference: both answer the same, what the laws of chapter 6 begin with, a log of notes, one after the other; a slice of the walk's own is read from now on, the law JournalLimits: for every input the call returns true -/
import Derived.Test.YtpmfdpkcnldpiaaDoorOm1
import Derived.Test.YtpmfdpkcnldpiaaDoorOm2
/- the walks of Put and Get of the program -/
namespace Go.Proofs.YtpmfdpkcnldpiaaDoor
open Go.RowKit

/-- what holds of Put's array behind k rounds -/
def PutRel (n : Int) (w wr : World) (k : Nat) : Prop :=
  Below w.heap.size w wr ∧ w.heap.size < wr.heap.size ∧ (∀ j, j < 8 → wr.cell? ⟨w.heap.size, j, none⟩ = some (.int .u8 (if j < k then n / 2 ^ (8 * j) % 256 else 0))) ∧ (∀ j, j < 8 → wr.frozen? ⟨w.heap.size, j, none⟩ = false)
theorem putRel_set {n : Int} {w wr : World} {k : Nat} (h : PutRel n w wr k) (hk : k < 8) : PutRel n w (wr.setCell ⟨w.heap.size, k, none⟩ (.int .u8 (n / 2 ^ (8 * k) % 256))) (k + 1) := by
  obtain ⟨hb, hz, hc, hf⟩ := h
  refine ⟨hb.setCell (Nat.le_refl _) _, by simpa using hz, fun j hj => ?_, fun j hj => by rw [World.frozen?_setCell]; exact hf j hj⟩
  by_cases e : j = k
  · subst e
    rw [World.cell?_setCell_same wr _ _ (hc j hj), if_pos (by omega)]
  · rw [World.cell?_setCell_other wr _ _ _ (by intro h; cases h; exact e rfl), hc j hj]
    by_cases hjk : j < k
    · rw [if_pos hjk, if_pos (by omega)]
    · rw [if_neg hjk, if_neg (by omega)]
set_option maxHeartbeats 400000 in
theorem put_ok (s : ByteArray) (n size : Int) (w : World) (hs : s.size ≤ 4611686018427387904) (h1 : 1 ≤ size) (h8 : size ≤ 8) :
    Calls Tryd.prog 22 #[.string s, .int .i64 n, .int .i64 size] w fun e w' => e = .returned (.string (s ++ leS n size.toNat)) ∧ Below w.heap.size w w' := by
  go_enter Tryd.func22, Tryd.ntmps22
  go_wp2
  go_loopw [8, 14] (fun _ i wr => ∃ k : Nat, (k : Int) ≤ size ∧ i = .int .i64 k ∧ PutRel n w wr k) (fun _ i _ => size.toNat - (intOf i).toNat)
  case atStart =>
    refine ⟨0, by omega, rfl, (Below.refl _ _).alloc (Nat.le_refl _) _, by simp, fun j hj => ?_, fun j hj => by simp⟩
    simp only [World.cell?_alloc_new]
    match j, hj with
    | 0, _ => rfl
    | 1, _ => rfl
    | 2, _ => rfl
    | 3, _ => rfl
    | 4, _ => rfl
    | 5, _ => rfl
    | 6, _ => rfl
    | 7, _ => rfl
  case round =>
    obtain ⟨k, hk, rfl, hr⟩ := hrel
    by_cases hlt : (k : Int) < size
    · have hset := putRel_set hr (by omega)
      have hc := hr.2.2.1 k (by omega)
      have hf := hr.2.2.2 k (by omega)
      clear hr
      go_wp2
      go_roundw
      case rel => exact ⟨k + 1, by omega, by go_num, hset⟩
      case measure => simp [intOf]; omega
    · obtain rfl : size = (k : Int) := by omega
      have hconv := run_convert_bytes_back (P := Tryd.prog) wr 57 9 5 ⟨w.heap.size, 0, none⟩ 8 (leL n k) Tryd.underlying57 Tryd.underlying5 Tryd.underlying9 (fun j hj => by
        rw [leL_length] at hj
        rw [leL_getD n k j hj, leB_toNat]
        have := hr.2.2.1 j (by omega)
        rw [if_pos hj] at this
        have ea : (⟨w.heap.size, 0, none⟩ : Addr).add j = ⟨w.heap.size, j, none⟩ := by
          simp only [Addr.add]; split
          · next h => rw [h]
          · simp
        rw [ea]; exact this)
      rw [leL_length] at hconv
      have hll : (leL n k).length ≤ 8 := by rw [leL_length]; omega
      have hb := hr.1
      clear hr
      go_wp2
      go_ret
      exact ⟨rfl, hb⟩
/-- a size that there is no number of: the text stays -/
theorem put_no (s : ByteArray) (n size : Int) (w : World) (h : size < 1 ∨ 8 < size) :
    Calls Tryd.prog 22 #[.string s, .int .i64 n, .int .i64 size] w fun e w' => e = .returned (.string s) ∧ Below w.heap.size w w' := by
  rcases h with h | h
  · have h' : ¬ 1 ≤ size := by omega
    go_enter Tryd.func22, Tryd.ntmps22
    go_wp2
    go_ret
    exact ⟨rfl, Below.refl _ _⟩
  · have h' : 1 ≤ size := by omega
    have h'' : ¬ size ≤ 8 := by omega
    go_enter Tryd.func22, Tryd.ntmps22
    go_wp2
    go_ret
    exact ⟨rfl, Below.refl _ _⟩
theorem valid_yes (z : Int) (w : World) (h1 : 1 ≤ z) (h8 : z ≤ 8) : Calls Tryd.prog 39 #[.int .i64 z] w fun e w' => e = .returned (.bool true) ∧ w = w' := by
  go_enter Tryd.func39, Tryd.ntmps39
  go_wp2
  go_ret
  exact ⟨rfl, rfl⟩
theorem valid_no (z : Int) (w : World) (h : z < 1 ∨ 8 < z) : Calls Tryd.prog 39 #[.int .i64 z] w fun e w' => e = .returned (.bool false) ∧ w = w' := by
  rcases h with h | h
  · have h' : ¬ 1 ≤ z := by omega
    go_enter Tryd.func39, Tryd.ntmps39
    go_wp2
    go_ret
    exact ⟨rfl, rfl⟩
  · have h' : 1 ≤ z := by omega
    have h'' : ¬ z ≤ 8 := by omega
    go_enter Tryd.func39, Tryd.ntmps39
    go_wp2
    go_ret
    exact ⟨rfl, rfl⟩
theorem put_any (s : ByteArray) (n z : Int) (w : World) (hs : s.size ≤ 4611686018427387904) :
    Calls Tryd.prog 22 #[.string s, .int .i64 n, .int .i64 z] w fun e w' => e = .returned (.string (putR s n z)) ∧ Below w.heap.size w w' := by
  unfold putR
  by_cases h : z < 1 ∨ 8 < z
  · simp only [if_pos h]; exact put_no s n z w h
  · simp only [if_neg h]; exact put_ok s n z w hs (by omega) (by omega)
end Go.Proofs.YtpmfdpkcnldpiaaDoor
/- the walks of Put and Get of the reference -/
namespace Go.Proofs.YtpmfdpkcnldpiaaDoor
open Go.RowKit

end Go.Proofs.YtpmfdpkcnldpiaaDoor
/- the sanity check, and the law CodecNumbers: what the program answers is what the reference answers, for every text and all numbers -/
namespace Go.Proofs.YtpmfdpkcnldpiaaDoor
open Go.RowKit
theorem sum_check : Crc.sum [49, 50, 51, 52, 53, 54, 55, 56, 57] = 0xE3069283#32 := by decide +kernel
theorem put_check : putR ⟨#[]⟩ 513 2 = ⟨#[1, 2]⟩ := by decide +kernel
theorem get_check : getR ⟨#[1, 2]⟩ 0 2 = (513, 0) := by
  unfold getR
  rw [if_neg (by decide), if_neg (by decide)]
  have : leNum ⟨#[1, 2]⟩ (0 : Int).toNat (2 : Int).toNat = 513 := by decide
  rw [this, IntWalk.wrap64_in _ (by omega)]
  rfl
/-- a cell of a block that was laid last, seen later -/
theorem cell_laid {w wr : World} {C : Array Value} {t : TypeId} (hb : Below (w.heap.size + 1) (w.alloc (.cells C t)) wr) (j : Nat) : wr.cell? ⟨w.heap.size, j, none⟩ = C[j]? := by
  rw [hb.cell (p := ⟨w.heap.size, j, none⟩) (Nat.lt_succ_self _), World.cell?_alloc_new]
end Go.Proofs.YtpmfdpkcnldpiaaDoor
/- the walk of the checksum of the reference: CRC-32C of the bytes -/
namespace Go.Proofs.YtpmfdpkcnldpiaaDoor
open Go.RowKit

end Go.Proofs.YtpmfdpkcnldpiaaDoor
/- the walks of Frame and Unframe, of the program and of the reference: both answer the same -/
namespace Go.Proofs.YtpmfdpkcnldpiaaDoor
open Go.RowKit

def frameB (p : ByteArray) : ByteArray := leS p.size 4 ++ p
/-- the frame of a payload -/
def frameR (p : ByteArray) : ByteArray := if 8392 < p.size then ⟨#[]⟩ else frameB p ++ leS (Crc.sum (frameB p).data.toList).toNat 4
theorem frameB_size (p : ByteArray) : (frameB p).size = p.size + 4 := by unfold frameB; rw [ByteArray.size_append, leS_size]; omega
theorem putR4 (s : ByteArray) (n : Int) : putR s n 4 = s ++ leS n 4 := by unfold putR; rw [if_neg (by decide)]; rfl
theorem empty_app (x : ByteArray) : (⟨#[]⟩ : ByteArray) ++ x = x := str_eq (by rw [str_app]; rfl)

set_option maxHeartbeats 400000 in
theorem frame_any (p : ByteArray) (w : World) (hp : p.size ≤ maxLen) (ht : TabAt w) :
    Calls Tryd.prog 21 #[.string p] w fun e w' => e = .returned (.string (frameR p)) ∧ Below w.heap.size w w' := by
  unfold maxLen at hp
  have HT := Lib.hid ht
  clear ht
  by_cases hl : 8392 < p.size
  · have HF : Hid (frameR p = ⟨#[]⟩) := if_pos hl
    go_enter Tryd.func21, Tryd.ntmps21
    go_wp2
    go_ret
    exact ⟨by rw [HF.out]; rfl, Below.refl _ _⟩
  · have HF : Hid (frameR p = frameB p ++ leS (Crc.sum (frameB p).data.toList).toNat 4) := if_neg hl
    have hfb := frameB_size p
    have HB : Hid (frameB p = leS p.size 4 ++ p) := rfl
    have hz4 : (leS p.size 4).size ≤ 4 := by rw [leS_size]; omega
    go_enter Tryd.func21, Tryd.ntmps21
    go_wp2_with fail
    refine (put_any _ _ _ _ (by decide)).mono ?_
    rintro e w1 ⟨rfl, hb⟩
    rw [putR4, empty_app]
    have HT1 := Lib.hid (HT.out.below hb)
    have hfz : (frameB p).size ≤ 8396 := by omega
    clear hfb
    generalize leS p.size 4 = l4 at *
    go_wp2_with fail
    rw [← HB.out]
    generalize frameB p = b at *
    refine (sum_any _ _ (by unfold maxLen; omega) HT1.out).mono ?_
    rintro e w2 ⟨rfl, rfl⟩
    have hs := (Crc.sum b.data.toList).isLt
    have hs' : (Crc.sum b.data.toList).toNat ≤ 4294967295 := by omega
    clear hs
    generalize (Crc.sum b.data.toList).toNat = c at *
    go_wp2_with fail
    refine (put_any _ _ _ _ (by omega)).mono ?_
    rintro e w2 ⟨rfl, hb2⟩
    rw [putR4]
    go_wp2
    go_ret
    exact ⟨by rw [HF.out]; rfl, hb.trans (hb2.mono hb.size)⟩

theorem getR4 (s : ByteArray) (a : Nat) (h : a + 4 ≤ s.size) : getR s a 4 = ((leNum s a 4 : Int), 0) := by
  unfold getR
  rw [if_neg (by omega), if_neg (by omega)]
  have := leNum_lt s a 4
  rw [show (a : Int).toNat = a from rfl, show (4 : Int).toNat = 4 from rfl, IntWalk.wrap64_in _ ⟨by omega, by omega⟩]
theorem getR4s (s : ByteArray) (a : Nat) (h : s.size < a + 4) : getR s a 4 = (0, 5) := by
  unfold getR
  rw [if_neg (by omega), if_pos (by omega)]
/-- the checksum of a part of a text -/
def sumAt (s : ByteArray) (a b : Nat) : Nat := (Crc.sum (s.extract a b).data.toList).toNat
/-- what Unframe answers -/
def unfR (s : ByteArray) (a : Int) : ByteArray × Int × Int :=
  if a < 0 ∨ (s.size : Int) < a then (⟨#[]⟩, 0, 1)
  else if s.size < a.toNat + 4 then (⟨#[]⟩, 0, 5)
  else if 8392 < leNum s a.toNat 4 then (⟨#[]⟩, 0, 2)
  else if s.size < a.toNat + 4 + leNum s a.toNat 4 + 4 then (⟨#[]⟩, 0, 5)
  else if leNum s (a.toNat + 4 + leNum s a.toNat 4) 4 ≠ sumAt s a.toNat (a.toNat + 4 + leNum s a.toNat 4) then (⟨#[]⟩, 0, 3)
  else (s.extract (a.toNat + 4) (a.toNat + 4 + leNum s a.toNat 4), (a.toNat : Int) + 4 + leNum s a.toNat 4 + 4, 0)
def unfV (r : ByteArray × Int × Int) : Value := .tuple #[.string r.1, .int .i64 r.2.1, .int .i64 r.2.2]

end Go.Proofs.YtpmfdpkcnldpiaaDoor
/- what the laws of chapter 6 begin with -/
namespace Go.Proofs.YtpmfdpkcnldpiaaDoor
open Go.RowKit
set_option maxRecDepth 20000
set_option linter.unusedSimpArgs false
set_option linter.unusedVariables false

def magicS : ByteArray := ⟨#[80, 77, 76, 71]⟩
def headS (n : Int) : ByteArray := frameR (putR magicS n 8)
theorem headS_size (n : Int) : (headS n).size = 20 := by
  have h1 : (putR magicS n 8).size = 12 := by unfold putR; rw [if_neg (by decide), ByteArray.size_append, leS_size]; rfl
  unfold headS frameR
  rw [if_neg (by rw [h1]; decide), ByteArray.size_append, leS_size, frameB_size, h1]
set_option maxHeartbeats 1000000 in
theorem head_any (n : Int) (w : World) (ht : TabAt w) : Calls Tryd.prog 15 #[.int .i64 n] w fun e w' => e = .returned (.string (headS n)) ∧ Below w.heap.size w w' := by
  have HT := Lib.hid ht
  have HH : Hid (headS n = frameR (putR magicS n 8)) := rfl
  have HZ : Hid ((putR magicS n 8).size ≤ maxLen) := Lib.hid (by unfold putR; rw [if_neg (by decide), ByteArray.size_append, leS_size]; decide)
  clear ht
  go_enter Tryd.func15, Tryd.ntmps15
  go_wp2_with fail
  refine (put_any magicS n 8 w (by decide)).mono ?_
  rintro e w1 ⟨rfl, hb⟩
  generalize putR magicS n 8 = s at *
  have HB := Lib.hid hb
  clear hb
  go_wp2_with fail
  refine (frame_any s w1 HZ.out (HT.out.below HB.out)).mono ?_
  rintro e w2 ⟨rfl, hb⟩
  rw [← HH.out]
  have HB2 := Lib.hid (HB.out.trans (hb.mono HB.out.size))
  clear hb
  go_wp2_with fail
  go_ret
  exact ⟨rfl, HB2.out⟩
theorem alloc_bd (w : World) : Sem.run Tryd.prog (Instr.alloc 59 true (.tuple #[])) w = .ok (.pointer (some ⟨w.heap.size, 0, none⟩)) (w.alloc (.cells ([.pointer none, .slice none 0 0] : List Value).toArray 59)) := by kernel_rfl
set_option maxHeartbeats 1000000 in
theorem encoded_nil (w : World) : Calls Tryd.prog 16 #[.slice none 0 0] w fun e w' => e = .returned (.string ⟨#[]⟩) ∧ Below w.heap.size w w' := by
  have HS0 : Hid (Hp w [.ob w.heap.size 59 [.pointer none, .slice none 0 0]] (w.alloc (.cells ([.pointer none, .slice none 0 0] : List Value).toArray 59))) := (Hp.start w).put 59 [.pointer none, .slice none 0 0]
  go_enter Tryd.func16, Tryd.ntmps16
  go_upto_region 2 with (first | ((with_reducible refine wpList_alloc_ob 59 ([.pointer none, .slice none 0 0]) ?_ ?_); (exact alloc_bd); simp only [Act.put, List.setIfInBounds_toArray, List.set_cons_zero, List.set_cons_succ]))
  generalize (w.alloc (.cells ([.pointer none, .slice none 0 0] : List Value).toArray 59)) = w2 at *
  go_wp2_with fail
  go_loopw [10] (fun i wr => i = .int .i64 0 ∧ wr = w2) (fun _ _ => 0)
  case atStart => exact ⟨rfl, rfl⟩
  case round =>
    obtain ⟨rfl, rfl⟩ := hrel
    go_wp2_with fail
    refine (string_nil w.heap.size _ (HS0.out.get 0 rfl)).mono ?_
    rintro e w3 ⟨rfl, hb⟩
    have HS1 := Lib.hid (HS0.out.calls hb)
    clear hb
    go_wp2_with fail
    go_ret
    exact ⟨rfl, HS1.out.old⟩
theorem newLg_in : LgIn newLg := ⟨by decide, by decide, fun i h => absurd h (Nat.not_lt_zero _), by decide⟩
theorem newLg_good : GoodLg newLg := ⟨by decide, by decide, fun e h => (by cases h), by decide⟩
theorem newLg_rd : LgRd nilSl newLg [] := SlRd.nil _ _
set_option maxHeartbeats 2000000 in
theorem bytes_new (w : World) (ht : TabAt w) : Calls Tryd.prog 10 #[.agg (lgCells nilSl newLg).toArray] w fun e w' => ∃ s : ByteArray, e = .returned (.string s) ∧ s.size = 20 ∧ Below w.heap.size w w' := by
  have HT := Lib.hid ht
  have HVa : Hid (∀ W, Calls Tryd.prog 11 #[.agg (lgCells nilSl newLg).toArray] W fun e w' => e = .returned (.bool true) ∧ Below W.heap.size W w') := fun W => newLg_in.ok ▸ valid_lg W newLg_rd (RdIn.nil W) newLg_good
  obtain ⟨fsHUG, huHUG⟩ := under_lg
  have HUG := Lib.hid huHUG
  clear huHUG
  have h1 := (Hp.start w).put 25 (lgCells nilSl newLg)
  have HS0 : Hid (Hp w [.ob w.heap.size 25 (lgCells nilSl newLg)] (w.alloc (.cells (lgCells nilSl newLg).toArray 25))) := h1
  clear h1 ht
  go_enter Tryd.func10, Tryd.ntmps10
  go_wp2_with (first | ((with_reducible refine wpList_load_ob 25 (.tmp 1) (w.heap.size) (lgCells nilSl newLg) 25 HUG.out ?_ ?_ ?_ ?_ ?_); (exact rfl); (exact (HS0.out).get 0 rfl); (exact rfl); (exact info_lg); simp only [Act.put, List.setIfInBounds_toArray, List.set_cons_zero, List.set_cons_succ]))
  refine (HVa.out _).mono ?_
  rintro e w3 ⟨rfl, hb⟩
  have HS2 : Hid (Hp w [.ob (w.heap.size) 25 (lgCells nilSl newLg)] w3) := (HS0.out).calls hb
  clear hb
  clear HS0
  go_upto_region 3 with (fail)
  have HS3 : Hid (Hp w [.ob (w.heap.size) 25 (lgCells nilSl newLg)] w3) := HS2.out
  clear HS2
  refine wp_region_held_drew (S := fun w' => w'.rangeAt w.heap.size 0 (lgCells nilSl newLg)) (by kernel_rfl) (fun j v hv => by rw [Nat.zero_add]; exact (HS3.out.drew).at 0 rfl j hv) (fun hHeld => ?_)
  refine wpAnyH_take (i := 0) (oi := { dst := some 6, op := Op.fieldAddr 25 (Operand.tmp 1) 0, type := 0, pos := "journal.go:96", after := #[], guard := none }) (v := ?q1v) rfl (by kernel_rfl) (by kernel_rfl) (by kernel_rfl) (fun _ _ _ h => h) (Or.inl ⟨by rfl, ?q1h⟩) hHeld ?q1r
  case q1h => (intro wq hSw; clear hSw; go_simp; try with_reducible rfl)
  try simp only [Act.put, List.setIfInBounds_toArray, List.set_cons_zero, List.set_cons_succ]
  refine wpAnyH_take (i := 1) (oi := { dst := some 7, op := Op.load 3 (Operand.tmp 6), type := 3, pos := "journal.go:96", after := #[{ on := 0, ground := Ground.data }], guard := none }) (v := .int .i64 newLg.first) rfl (by kernel_rfl) (by kernel_rfl) (by kernel_rfl) (fun _ _ _ h => h) (Or.inl ⟨by rfl, ?q2h⟩) hHeld ?q2r
  case q2h => (intro wq hSw; have hq := hSw 0 _ rfl; simp only [Nat.zero_add] at hq; clear hSw; go_simp; try with_reducible rfl)
  try simp only [Act.put, List.setIfInBounds_toArray, List.set_cons_zero, List.set_cons_succ]
  refine wpAnyH_take (i := 3) (oi := { dst := some 9, op := Op.fieldAddr 25 (Operand.tmp 1) 1, type := 0, pos := "journal.go:96", after := #[], guard := none }) (v := ?q3v) rfl (by kernel_rfl) (by kernel_rfl) (by kernel_rfl) (fun _ _ _ h => h) (Or.inl ⟨by rfl, ?q3h⟩) hHeld ?q3r
  case q3h => (intro wq hSw; clear hSw; go_simp; try with_reducible rfl)
  try simp only [Act.put, List.setIfInBounds_toArray, List.set_cons_zero, List.set_cons_succ]
  refine wpAnyH_take (i := 4) (oi := { dst := some 10, op := Op.load 23 (Operand.tmp 9), type := 23, pos := "journal.go:96", after := #[{ on := 3, ground := Ground.data }], guard := none }) (v := .slice none 0 0) rfl (by kernel_rfl) (by kernel_rfl) (by kernel_rfl) (fun _ _ _ h => h) (Or.inl ⟨by rfl, ?q4h⟩) hHeld ?q4r
  case q4h => (intro wq hSw; have hq := hSw 1 _ rfl; simp only [Nat.zero_add] at hq; clear hSw; go_simp; try with_reducible rfl)
  try simp only [Act.put, List.setIfInBounds_toArray, List.set_cons_zero, List.set_cons_succ]
  refine wpAnyH_ready (rs := [2]) (by kernel_rfl) (by simp) ?_
  refine AllReadyH.cons (o := { dst := some 8, op := Op.call { callee := Callee.value (Operand.func 15), args := #[Operand.tmp 7], argTypes := #[3] }, type := 9, pos := "journal.go:96", after := #[{ on := 1, ground := Ground.data }], guard := none }) rfl (fun K hK => ?_) (AllReadyH.nil)
  go_simp
  go_wp2_with (go_at_call 15; refine (head_any newLg.first _ (HT.out.below ((HS3.out).drew).old)).mono ?_; rintro e w4 ⟨rfl, hb⟩)
  have HS4 : Hid (Hp w [.ob (w.heap.size) 25 (lgCells nilSl newLg)] w4) := ((HS3.out).drew).calls hb
  refine hK.out _ _ (fun j v hv => by rw [Nat.zero_add]; exact HS4.out.at 0 rfl j hv) (fun hHeld => ?_)
  clear hK K hb
  have hz := headS_size newLg.first
  generalize headS newLg.first = hs1 at *
  try simp only [Act.put, List.setIfInBounds_toArray, List.set_cons_zero, List.set_cons_succ]
  refine wpAnyH_ready (rs := [5]) (by kernel_rfl) (by simp) ?_
  refine AllReadyH.cons (o := { dst := some 11, op := Op.call { callee := Callee.value (Operand.func 16), args := #[Operand.tmp 10], argTypes := #[23] }, type := 9, pos := "journal.go:96", after := #[{ on := 4, ground := Ground.data }, { on := 2, ground := Ground.chain }], guard := none }) rfl (fun K hK => ?_) (AllReadyH.nil)
  go_simp
  go_wp2_with (go_at_call 16; refine (encoded_nil _).mono ?_; rintro e w5 ⟨rfl, hb⟩)
  have HS5 : Hid (Hp w [.ob (w.heap.size) 25 (lgCells nilSl newLg)] w5) := (HS4.out).calls hb
  refine hK.out _ _ (fun j v hv => by rw [Nat.zero_add]; exact HS5.out.at 0 rfl j hv) (fun hHeld => ?_)
  clear hK K hb
  try simp only [Act.put, List.setIfInBounds_toArray, List.set_cons_zero, List.set_cons_succ]
  refine wpAnyH_take (i := 6) (oi := { dst := some 12, op := Op.binOp BinOp.add 9 (Operand.tmp 8) (Operand.tmp 11) 9, type := 9, pos := "journal.go:96", after := #[{ on := 2, ground := Ground.data }, { on := 5, ground := Ground.data }], guard := none }) (v := ?q5v) rfl (by kernel_rfl) (by kernel_rfl) (by kernel_rfl) (fun _ _ _ h => h) (Or.inl ⟨by rfl, ?q5h⟩) hHeld ?q5r
  case q5h => (intro wq hSw; clear hSw; go_simp; try with_reducible rfl)
  try simp only [Act.put, List.setIfInBounds_toArray, List.set_cons_zero, List.set_cons_succ]
  refine wpAnyH_take (i := 7) (oi := { dst := some 2, op := Op.assign (Operand.tmp 12), type := 9, pos := "journal.go:96", after := #[{ on := 6, ground := Ground.data }, { on := 5, ground := Ground.chain }, { on := 0, ground := Ground.phase }, { on := 1, ground := Ground.phase }, { on := 2, ground := Ground.phase }, { on := 3, ground := Ground.phase }, { on := 4, ground := Ground.phase }, { on := 5, ground := Ground.phase }, { on := 6, ground := Ground.phase }], guard := none }) (v := ?q6v) rfl (by kernel_rfl) (by kernel_rfl) (by kernel_rfl) (fun _ _ _ h => h) (Or.inl ⟨by rfl, ?q6h⟩) hHeld ?q6r
  case q6h => (intro wq hSw; clear hSw; go_simp; try with_reducible rfl)
  try simp only [Act.put, List.setIfInBounds_toArray, List.set_cons_zero, List.set_cons_succ]
  refine wpAnyH_done (by kernel_rfl) ?_ _
  clear hHeld
  have HZ := Lib.hid hz
  clear hz
  go_wp2_with fail
  go_ret
  exact ⟨hs1 ++ ⟨#[]⟩, rfl, by rw [ByteArray.size_append, HZ.out]; rfl, HS5.out.old⟩
def exX : Ent := ⟨0, 8, 0, 0, 0, 0, chNil, ⟨#[120]⟩⟩
theorem exX_good : GoodEn exX := ⟨by decide, by decide, by decide, by decide, by decide, by decide, nil_good, by decide⟩
theorem exX_ok : entOkB (stamp exX 1) = true := by
  simp [stamp, exX, entOkB, kindB, befB, ruleF, textF, zeroB, noRefB, noChB, blobB, sameV_self]
  try decide
theorem build_x (W : World) : Sem.run Tryd.prog (Instr.build 31 #[(1, .int .i64 8), (7, .string ⟨#[120]⟩)]) W = .ok (.agg (enCells exX).toArray) W := by kernel_rfl
theorem append_x : appendR newLg exX = (⟨1, [stamp exX 1], 0⟩, 1, 0) := by
  unfold appendR
  rw [if_neg (by rw [newLg_in.ok]; decide), if_neg (by decide), if_neg (by rw [show endI newLg + 1 = 1 from rfl, exX_ok]; decide)]
  rfl
theorem one_in : LgIn ⟨1, [stamp exX 1], 0⟩ := ⟨by decide, by decide, fun i h => by
  obtain rfl : i = 0 := by simpa using h
  exact ⟨rfl, exX_ok⟩, by decide⟩
theorem one_good : GoodLg ⟨1, [stamp exX 1], 0⟩ := ⟨by decide, by decide, fun e h => by
  obtain rfl := List.mem_singleton.1 h
  exact stamp_good exX_good (by decide), by decide⟩
theorem one_last : lastR ⟨1, [stamp exX 1], 0⟩ = 1 := by unfold lastR; rw [if_neg (by rw [one_in.ok]; decide)]; rfl
set_option maxHeartbeats 4000000 in
theorem awake6 (w : World) (ht : TabAt w) : Calls Tryd.prog 4 #[] w fun e w' => e = .returned (.bool true) ∧ Below w.heap.size w w' := by
  have HT := Lib.hid ht
  obtain ⟨fsHUG, huHUG⟩ := under_lg
  have HUG := Lib.hid huHUG
  clear huHUG
  obtain ⟨fsHUE, huHUE⟩ := under_en
  have HUE := Lib.hid huHUE
  clear huHUE
  have HS0 := Lib.hid (Hp.start w)
  clear ht
  go_enter Tryd.func4, Tryd.ntmps4
  go_wp2_with fail
  refine (new_lg _).mono ?_
  rintro e w2 ⟨rfl, hb⟩
  have HS2 : Hid (Hp w [] w2) := (HS0.out).calls hb
  clear hb
  clear HS0
  go_wp2_with (first | ((with_reducible refine wpList_build_v (d := some 6) 31 (.agg (enCells exX).toArray) ?_ ?_); (intro W; simp only [List.map_toArray, List.map_cons, List.map_nil]; exact build_x W); simp only [Act.put, List.setIfInBounds_toArray, List.set_cons_zero, List.set_cons_succ]))
  refine (lg_as3 append_x (append_lg exX _ newLg_rd (RdIn.nil _) newLg_good exX_good)).mono ?_
  rintro e w3 ⟨vx, Rx, rfl, hrd, hin, hnew, hb⟩
  obtain ⟨ax, cx, rfl, _⟩ := id hrd
  have HLgx := Lib.hid hrd
  have HS3 : Hid (Hp w [.rd Rx] w3) := (HS2.out).addrd hb Rx hin (fun r hr => (hnew r hr).elim .inl (fun h => absurd h List.not_mem_nil))
  clear hb hin hnew hrd
  clear HS2
  go_wp2_with (first | ((with_reducible refine wpList_alloc_ob 25 (lgCells nilSl lgNil) ?_ ?_); (exact alloc_lg); simp only [Act.put, List.setIfInBounds_toArray, List.set_cons_zero, List.set_cons_succ]) | ((with_reducible refine wpList_store_ob 25 (.tmp 1) (w3.heap.size) (lgCells (.slice ax (List.length [stamp exX 1]) cx) ⟨1, [stamp exX 1], 0⟩) (lgCells nilSl lgNil) 25 ?_ ?_ ?_ ?_ ?_ ?_ ?_); (exact rfl); (exact rfl); (exact ((HS3.out).put 25 (lgCells nilSl lgNil)).get 1 rfl); (exact info_lg); (exact rfl); (exact (oneCell_lg _ _ _ _)); skip) | ((with_reducible refine wpList_load_ob_w 25 (.tmp 1) (w3.heap.size) (lgCells (.slice ax (List.length [stamp exX 1]) cx) ⟨1, [stamp exX 1], 0⟩) 25 HUG.out ?_ ?_ ?_ ?_ ?_ ?_); (exact rfl); (exact rfl); (exact (((HS3.out).put 25 (lgCells nilSl lgNil)).row 1 rfl (lgCells (.slice ax (List.length [stamp exX 1]) cx) ⟨1, [stamp exX 1], 0⟩)).get 1 rfl); (exact rfl); (exact info_lg); simp only [Act.put, List.setIfInBounds_toArray, List.set_cons_zero, List.set_cons_succ]))
  refine ((one_last ▸ last_lg _ HLgx.out ((((HS3.out).put 25 (lgCells nilSl lgNil)).row 1 rfl (lgCells (.slice ax (List.length [stamp exX 1]) cx) ⟨1, [stamp exX 1], 0⟩)).reads 0 rfl) one_good)).mono ?_
  rintro e w4 ⟨rfl, hb⟩
  have HS4 : Hid (Hp w [.rd Rx, .ob (w3.heap.size) 25 (lgCells (.slice ax (List.length [stamp exX 1]) cx) ⟨1, [stamp exX 1], 0⟩)] w4) := (((HS3.out).put 25 (lgCells nilSl lgNil)).row 1 rfl (lgCells (.slice ax (List.length [stamp exX 1]) cx) ⟨1, [stamp exX 1], 0⟩)).calls hb
  clear hb
  clear HS3
  generalize w3.heap.size = B1 at *
  go_wp2_with fail
  refine (new_lg _).mono ?_
  rintro e w5 ⟨rfl, hb⟩
  have HS5 : Hid (Hp w [.rd Rx, .ob B1 25 (lgCells (.slice ax (List.length [stamp exX 1]) cx) ⟨1, [stamp exX 1], 0⟩)] w5) := (HS4.out).calls hb
  clear hb
  clear HS4
  go_wp2_with fail
  refine (bytes_new _ (HT.out.below (HS5.out).old)).mono ?_
  rintro e w6 ⟨s, rfl, hz, hb⟩
  have HS6 : Hid (Hp w [.rd Rx, .ob B1 25 (lgCells (.slice ax (List.length [stamp exX 1]) cx) ⟨1, [stamp exX 1], 0⟩)] w6) := (HS5.out).calls hb
  clear hb
  clear HS5
  have hz2 : (s.size : Int) = 20 := by omega
  clear hz
  go_wp2_with fail
  go_ret
  exact ⟨rfl, (HS6.out).old⟩
end Go.Proofs.YtpmfdpkcnldpiaaDoor
/- a log of notes, one after the other; a slice of the walk's own is read from now on -/
namespace Go.Proofs.YtpmfdpkcnldpiaaDoor
open Go.RowKit
set_option maxRecDepth 20000

theorem Hp.ownrd {w W : World} {A : List Th} {v : Value} {e : TypeId} {z n : Nat} {xs : List Value} (h : Hp w (A ++ [.sl v e z n xs]) W) : ∃ R, SlRd v z n xs R ∧ Hp w (A ++ [.rd R]) W := by
  have ho : W.ownsRow w.heap.size e z v n xs := h.all (.sl v e z n xs) (List.mem_append_right _ (List.mem_singleton.2 rfl))
  obtain ⟨R, h1, h2, h3⟩ := own_reads ho
  obtain ⟨ha, _, hc⟩ := List.pairwise_append.1 h.nd
  refine ⟨R, h1, h.old, fun x hx => ?_, ?_⟩
  · rcases List.mem_append.1 hx with hx | hx
    · exact h.all x (List.mem_append_left _ hx)
    · obtain rfl := List.mem_singleton.1 hx
      exact h2
  · rw [List.pairwise_append]
    refine ⟨ha, List.pairwise_singleton _ _, fun a ham b hb => ?_⟩
    obtain rfl := List.mem_singleton.1 hb
    have hap := hc a ham _ (List.mem_singleton.2 rfl)
    refine ⟨fun c hac => ⟨fun hbc => (by cases hbc), fun hbr => ?_⟩, fun c hbc => (by cases hbc)⟩
    obtain ⟨r, hr, rfl⟩ := List.mem_map.1 hbr
    exact (hap.1 _ hac).1 (h3 r hr).2
def note (n : Int) : Ent := ⟨n, 8, 0, 0, 0, 0, chNil, emptyS⟩
def notes (f : Int) (n : Nat) : List Ent := (List.range n).map fun i => note (f + (i : Nat))
theorem notes_length (f : Int) (n : Nat) : (notes f n).length = n := by simp [notes]
theorem notes_at (f : Int) (n i : Nat) (h : i < (notes f n).length) : (notes f n)[i] = note (f + i) := by simp [notes]
theorem notes_succ (f : Int) (n : Nat) : notes f (n + 1) = notes f n ++ [note (f + n)] := by simp [notes, List.range_succ]
theorem note_ok {n : Int} (h1 : 1 ≤ n) (h2 : n ≤ 1099511627776) : entOkB (note n) = true := by
  have hz : emptyS.size = 0 := rfl
  simp [note, entOkB, kindB, befB, ruleF, textF, zeroB, noRefB, noChB, blobB, sameV_self, hz]
  have h3 : 0 < n := by omega
  exact ⟨decide_eq_true h1, decide_eq_true h2, decide_eq_true h3, decide_eq_true h3, decide_eq_true h3⟩
theorem note_good {n : Int} (h1 : -9223372036854775808 ≤ n) (h2 : n ≤ 9223372036854775807) : GoodEn (note n) := ⟨wf_of h1 h2, by show (Lit.int .i64 8).wf = true; decide, by show (Lit.int .i64 0).wf = true; decide, by show (Lit.int .i64 0).wf = true; decide, by show (Lit.int .i64 0).wf = true; decide, by show (Lit.int .i64 0).wf = true; decide, nil_good, by show emptyS.size ≤ maxLen; decide⟩
theorem build_note (n : Int) (W : World) : Sem.run Tryd.prog (Instr.build 31 #[(0, .int .i64 n), (1, .int .i64 8)]) W = .ok (.agg (enCells (note n)).toArray) W := by kernel_rfl
theorem build_note0 (W : World) : Sem.run Tryd.prog (Instr.build 31 #[(1, .int .i64 8)]) W = .ok (.agg (enCells (note 0)).toArray) W := by kernel_rfl
def logN (f : Int) (n : Nat) : Lg := ⟨f, notes f n, f - 1⟩
theorem logN_end (f : Int) (n : Nat) (d : Int) : endI ⟨f, notes f n, d⟩ = f + n - 1 := by unfold endI; rw [notes_length]
theorem notes_in {f d : Int} {n : Nat} (h1 : 1 ≤ f) (hf : f ≤ 1099511627776) (h2 : f + n ≤ 1099511627777) (hn : n ≤ 4096) (hd : f - 1 ≤ d) (hd2 : d ≤ f + n - 1) : LgIn ⟨f, notes f n, d⟩ := by
  refine ⟨⟨h1, hf⟩, by show (notes f n).length ≤ 4096; rw [notes_length]; exact hn, fun i h => ?_, hd, by rw [logN_end]; exact hd2⟩
  have h' : i < (notes f n).length := h
  have hi : i < n := by rw [notes_length] at h'; exact h'
  show (notes f n)[i].lsn = f + i ∧ entOkB (notes f n)[i] = true
  rw [notes_at f n i h']
  exact ⟨rfl, note_ok (by omega) (by omega)⟩
theorem notes_good {f d : Int} {n : Nat} (h1 : 0 ≤ f) (hf : f ≤ 1099511627777) (hd : -1 ≤ d) (hd2 : d ≤ 2199023255552) (hn : n ≤ 4096) : GoodLg ⟨f, notes f n, d⟩ := by
  refine ⟨wf_of (by show _ ≤ f; omega) (by show f ≤ _; omega), wf_of (by show _ ≤ d; omega) (by show d ≤ _; omega), fun e he => ?_, by show (notes f n).length ≤ _; rw [notes_length]; omega⟩
  have he' : e ∈ notes f n := he
  unfold notes at he'
  obtain ⟨i, hi, rfl⟩ := List.mem_map.1 he'
  have := List.mem_range.1 hi
  exact note_good (by omega) (by omega)
theorem notes_drop (f : Int) (n : Nat) : (notes f (n + 1)).drop 1 = notes (f + 1) n := by
  apply List.ext_getElem
  · simp [notes]
  · intro i h1 h2
    rw [List.getElem_drop, notes_at, notes_at]
    congr 1
    omega
theorem stamp_note (k n : Int) : stamp (note k) n = note n := rfl
theorem append_full {f d : Int} {n : Nat} (k : Int) (h : LgIn ⟨f, notes f n, d⟩) (hx : n = 4096 ∨ 1099511627777 ≤ f + n) : appendR ⟨f, notes f n, d⟩ (note k) = (lgNil, 0, 21) := by
  unfold appendR
  rw [if_neg (by rw [h.ok]; decide), if_pos]
  rcases hx with hx | hx
  · left; show (notes f n).length = 4096; rw [notes_length]; exact hx
  · right; rw [logN_end]; omega
theorem append_more {f d : Int} {n : Nat} (k : Int) (h : LgIn ⟨f, notes f n, d⟩) (hn : n < 4096) (hx : f + n ≤ 1099511627776) : appendR ⟨f, notes f n, d⟩ (note k) = (⟨f, notes f n ++ [note (f + n)], d⟩, f + n, 0) := by
  unfold appendR
  have h1 := h.first
  simp only at h1
  have he : endI ⟨f, notes f n, d⟩ + 1 = f + n := by rw [logN_end]; omega
  rw [if_neg (by rw [h.ok]; decide), if_neg (by rw [he]; show ¬ ((notes f n).length = 4096 ∨ _); rw [notes_length]; omega), he, stamp_note, if_neg (by rw [note_ok (by omega) hx]; decide)]
theorem force_first {f : Int} {n : Nat} (h : LgIn ⟨f, notes f n, f - 1⟩) (hn : 0 < n) : forceR ⟨f, notes f n, f - 1⟩ f = (⟨f, notes f n, f⟩, 0) := by
  unfold forceR
  rw [if_neg (by rw [h.ok]; decide), if_neg (by rw [logN_end]; omega)]
  show ((⟨f, notes f n, max (f - 1) f⟩ : Lg), (0 : Int)) = _
  rw [Int.max_eq_right (by omega)]
theorem cut_first {f : Int} {n : Nat} (h : LgIn ⟨f, notes f (n + 1), f⟩) (hf : f + 1 ≤ 1099511627776) : cutR ⟨f, notes f (n + 1), f⟩ (f + 1) = (⟨f + 1, notes (f + 1) n, f⟩, 0) := by
  unfold cutR
  rw [if_neg (by rw [h.ok]; decide), if_neg (by rw [logN_end]; show ¬ (f + 1 < f ∨ _ ∨ _); omega), if_neg (by show ¬ (f < f + 1 - 1); omega)]
  show ((⟨f + 1, (notes f (n + 1)).drop (f + 1 - f).toNat, f⟩ : Lg), (0 : Int)) = _
  rw [show (f + 1 - f).toNat = 1 by omega, notes_drop]
end Go.Proofs.YtpmfdpkcnldpiaaDoor
/- the law JournalLimits: for every input the call returns true -/
namespace Go.Proofs.YtpmfdpkcnldpiaaDoor
open Go.RowKit
set_option maxRecDepth 20000
set_option linter.unusedSimpArgs false
set_option linter.unusedVariables false

set_option maxHeartbeats 16000000 in
theorem limits_any (less : Int) (high : Bool) (w : World) (h0 : 0 ≤ less ∧ less ≤ 255) (ht : TabAt w) :
    Calls Tryd.prog 3 #[.int .u8 less, .bool high] w fun e w' => e = .returned (.bool true) ∧ Below w.heap.size w w' := by
  have HT := Lib.hid ht
  obtain ⟨fsHUG, huHUG⟩ := under_lg
  have HUG := Lib.hid huHUG
  clear huHUG
  obtain ⟨fsHUE, huHUE⟩ := under_en
  have HUE := Lib.hid huHUE
  clear huHUE
  have HUX : Hid (Tryd.prog.underlying 23 = some (.slice 31)) := Tryd.underlying23
  obtain ⟨l0, l1⟩ := h0
  obtain ⟨N, hN⟩ : ∃ N : Nat, 4096 - less % 3 = (N : Int) := Int.eq_ofNat_of_zero_le (by omega)
  have hN1 : 4094 ≤ N := by omega
  have hN2 : N ≤ 4096 := by omega
  have hN3 : (N : Int) ≤ 4096 := by omega
  have hN0 : (0 : Int) ≤ (N : Int) := by omega
  have HNb : Hid (4094 ≤ N ∧ N ≤ 4096) := ⟨hN1, hN2⟩
  have hr3 : less.tmod 3 = less % 3 := Int.tmod_eq_emod_of_nonneg l0
  have hwN : wrap64 (4096 - less % 3) = (N : Int) := by rw [hN]; exact IntWalk.wrap64_in _ (by omega)
  have hwl : wrap64 less = less := IntWalk.wrap64_in _ (by omega)
  have hw3 : wrap64 (less % 3) = less % 3 := IntWalk.wrap64_in _ (by omega)
  have HS0 := Lib.hid (Hp.start w)
  clear ht
  go_enter Tryd.func3, Tryd.ntmps3
  go_wp2_with fail
  refine (awake6 _ HT.out).mono ?_
  rintro e w2 ⟨rfl, hb⟩
  have HS2 : Hid (Hp w [] w2) := (HS0.out).calls hb
  clear hb
  clear HS0
  go_upto_region 5 with (first | ((with_reducible refine wpList_build_v (d := some 23) 25 (.agg (lgCells nilSl newLg).toArray) ?_ ?_); (intro W; simp only [List.map_toArray, List.map_cons, List.map_nil]; exact build_lg1 W); simp only [Act.put, List.setIfInBounds_toArray, List.set_cons_zero, List.set_cons_succ]) | ((with_reducible refine wpList_alloc_ob 25 (lgCells nilSl lgNil) ?_ ?_); (exact alloc_lg); simp only [Act.put, List.setIfInBounds_toArray, List.set_cons_zero, List.set_cons_succ]) | ((with_reducible refine wpList_store_ob 25 (.tmp 6) (w2.heap.size) (lgCells nilSl newLg) (lgCells nilSl lgNil) 25 ?_ ?_ ?_ ?_ ?_ ?_ ?_); (exact rfl); (exact rfl); (exact ((HS2.out).put 25 (lgCells nilSl lgNil)).get 0 rfl); (exact info_lg); (exact rfl); (exact (oneCell_lg _ _ _ _)); skip))
  have HS3 : Hid (Hp w [.ob (w2.heap.size) 25 (lgCells nilSl newLg)] ((w2.alloc (.cells (lgCells nilSl lgNil).toArray 25)).setRow (w2.heap.size) (lgCells nilSl newLg).toArray)) := ((HS2.out).put 25 (lgCells nilSl lgNil)).row 0 rfl (lgCells nilSl newLg)
  clear HS2
  generalize ((w2.alloc (.cells (lgCells nilSl lgNil).toArray 25)).setRow (w2.heap.size) (lgCells nilSl newLg).toArray) = w3 at *
  generalize w2.heap.size = B1 at *
  cases high
  case true =>
    have b0 : w3.cell? ⟨B1, 0, none⟩ = some (.int .i64 1) := (HS3.out).at 0 rfl 0 rfl
    have b2 : w3.cell? ⟨B1, 2, none⟩ = some (.int .i64 0) := (HS3.out).at 0 rfl 2 rfl
    have g0 : w3.frozen? ⟨B1, 0, none⟩ = false := (HS3.out).frozen 0 rfl 0
    have g2 : w3.frozen? ⟨B1, 2, none⟩ = false := (HS3.out).frozen 0 rfl 2
    obtain ⟨f0, hf⟩ : ∃ f0 : Int, (1099511627776 - (N : Int) + 1) = f0 := ⟨_, rfl⟩
    have hf0 : 1 ≤ f0 ∧ f0 + (N : Int) ≤ 1099511627777 := by have := HNb.out; omega
    have hfx : f0 + (N : Int) = 1099511627777 := by omega
    have HFx := Lib.hid hfx
    have hw1 : wrap64 (1099511627776 - (N : Int)) = 1099511627776 - (N : Int) := IntWalk.wrap64_in _ (by omega)
    have hw2 : wrap64 (1099511627776 - (N : Int) + 1) = f0 := by rw [hf]; exact IntWalk.wrap64_in _ (by omega)
    have hw4 : wrap64 (f0 - 1) = f0 - 1 := IntWalk.wrap64_in _ (by omega)
    have hset := ((HS3.out).set 0 rfl 0 (.int .i64 f0)).set 0 rfl 2 (.int .i64 (f0 - 1))
    have HSet : Hid (Hp w [.ob B1 25 (lgCells nilSl ⟨f0, notes f0 0, f0 - 1⟩)] ((w3.setCell ⟨B1, 0, none⟩ (.int .i64 f0)).setCell ⟨B1, 2, none⟩ (.int .i64 (f0 - 1)))) := hset
    clear hset
    go_wp2_with fail
    clear HS3
    generalize ((w3.setCell ⟨B1, 0, none⟩ (.int .i64 f0)).setCell ⟨B1, 2, none⟩ (.int .i64 (f0 - 1))) = wz at *
    have HF := Lib.hid hf0
    clear hN hN1 hN2 hr3 hwN hwl hw3 l0 l1 hf0 b0 b2 g2 hw4 hfx hw1 hw2 g0 hf
    go_loopw [7] (fun i wr => ∃ (k : Nat) (v : Value), k ≤ N ∧ i = .int .i64 k ∧ Hp w [.ob B1 25 (lgCells v ⟨f0, notes f0 k, f0 - 1⟩), .sl v 31 13 k (entRow (notes f0 k))] wr) (fun i _ => N - (intOf i).toNat)
    case atStart => exact ⟨0, nilSl, Nat.zero_le _, rfl, (HSet.out).nil 31 13⟩
    case round =>
      clear HSet
      obtain ⟨k, v, hk, rfl, hs⟩ := hrel
      obtain ⟨av, cv, rfl⟩ := own_slice (hs.own 1 rfl)
      have HQ := Lib.hid hs
      clear hs
      by_cases hlt : k < N
      · have hki : (k : Int) < (N : Int) := by omega
        have HKl := Lib.hid hlt
        have hwk : wrap64 (f0 + (k : Int)) = f0 + (k : Int) := IntWalk.wrap64_in _ (by have := HF.out; omega)
        have hfa : 1 ≤ f0 := HF.out.1
        have hfb : f0 ≤ 1099511627776 := by have := HF.out; have := HNb.out; omega
        have b1 : wr.cell? ⟨B1, 1, none⟩ = some (.slice av k cv) := HQ.out.at 0 rfl 1 rfl
        have b0 : wr.cell? ⟨B1, 0, none⟩ = some (.int .i64 f0) := HQ.out.at 0 rfl 0 rfl
        clear hlt hk
        go_wp2_with (first | ((with_reducible refine wpList_build_v (d := some 44) 31 (.agg (enCells (note (f0 + (k : Int)))).toArray) ?_ ?_); (intro W; simp only [List.map_toArray, List.map_cons, List.map_nil]; exact build_note (f0 + (k : Int)) W); simp only [Act.put, List.setIfInBounds_toArray, List.set_cons_zero, List.set_cons_succ]) | ((with_reducible refine wpList_build_obs 23 1 elem_en HUX.out [enCells (note (f0 + (k : Int)))] ?_ ?_ ?_ ?_ ?_ ?_); (exact (List.forall_mem_cons.2 ⟨rfl, (fun _ h => absurd h List.not_mem_nil)⟩)); (exact Nat.succ_pos _); (simp only [List.length_cons, List.length_nil]; omega); (exact rfl); (simp only [List.map_toArray, List.map_cons, List.map_nil, List.zipIdx_cons, List.zipIdx_nil]; exact rfl); simp only [Act.put, List.setIfInBounds_toArray, List.set_cons_zero, List.set_cons_succ]) | ((with_reducible refine wpList_append_hp ((HQ.out).put 31 (([enCells (note (f0 + (k : Int)))] : List (List Value)).flatMap id)) (.tmp 39) (.tmp 45) 23 1 (v := (.slice av k cv)) (e := 31) (z := 13) (n := k) (xs := entRow (notes f0 k)) ?_ 2 (b := (wr.heap.size)) (t' := 31) (ys := ([enCells (note (f0 + (k : Int)))] : List (List Value)).flatMap id) ?_ HUX.out elem_en 1 1 ?_ ?_ ?_ ?_ ?_ ?_); (exact rfl); (exact rfl); (exact rfl); (exact rfl); (exact rfl); (exact (all_one_en _)); (exact (by have := HKl.out; have := HNb.out; omega))))
        intro v31 w31 hs hnil
        have HS32 : Hid (Hp w [.ob B1 25 (lgCells (.slice av k cv) ⟨f0, notes f0 k, f0 - 1⟩), .sl v31 31 13 (k + 1) ((entRow (notes f0 k)) ++ (([enCells (note (f0 + (k : Int)))] : List (List Value)).flatMap id)), .ob (wr.heap.size) 31 (([enCells (note (f0 + (k : Int)))] : List (List Value)).flatMap id)] w31) := hs
        clear hs
        clear HQ
        generalize wr.heap.size = B2 at *
        obtain ⟨ag, cg, rfl⟩ := own_slice (HS32.out.own 1 rfl)
        have b1 : w31.cell? ⟨B1, 1, none⟩ = some (.slice av k cv) := HS32.out.at 0 rfl 1 rfl
        have f1 : w31.frozen? ⟨B1, 1, none⟩ = false := HS32.out.frozen 0 rfl 1
        have hset := (HS32.out).set 0 rfl 1 (.slice ag (k + 1) cg)
        have hset2 : Hp w [.ob B1 25 (lgCells (.slice ag (k + 1) cg) ⟨f0, notes f0 (k + 1), f0 - 1⟩), .sl (.slice ag (k + 1) cg) 31 13 (k + 1) (entRow (notes f0 (k + 1)))] (w31.setCell ⟨B1, 1, none⟩ (.slice ag (k + 1) cg)) := by
          have h3 : Hp w [.ob B1 25 (lgCells (.slice ag (k + 1) cg) ⟨f0, notes f0 (k + 1), f0 - 1⟩), .sl (.slice ag (k + 1) cg) 31 13 (k + 1) (entRow (notes f0 k) ++ (([enCells (note (f0 + (k : Int)))] : List (List Value)).flatMap id))] (w31.setCell ⟨B1, 1, none⟩ (.slice ag (k + 1) cg)) := hset.pull [0, 1] rfl (pull_nd hset.nd [0, 1] rfl (by decide))
          have e3 : entRow (notes f0 (k + 1)) = entRow (notes f0 k) ++ (([enCells (note (f0 + (k : Int)))] : List (List Value)).flatMap id) := by rw [notes_succ, entRow_append, entRow_one, List.flatMap_cons, List.flatMap_nil, List.append_nil]; rfl
          rw [e3]
          exact h3
        have HSet := Lib.hid hset2
        clear hset hset2
        go_wp2_with fail
        go_roundw
        case rel => exact ⟨k + 1, .slice ag (k + 1) cg, by have := HKl.out; omega, by go_num, HSet.out⟩
        case measure => simp [intOf]; have := HKl.out; omega
      · obtain rfl : k = N := by omega
        obtain ⟨R0, hr0, hs0⟩ := Hp.ownrd (A := [.ob B1 25 (lgCells (.slice av k cv) ⟨f0, notes f0 k, f0 - 1⟩)]) HQ.out
        have HLg0 : Hid (LgRd (.slice av k cv) ⟨f0, notes f0 k, f0 - 1⟩ R0) := Lib.hid (by show SlRd _ 13 (notes f0 k).length (entRow (notes f0 k)) R0; rw [notes_length]; exact hr0)
        have HS60 : Hid (Hp w [.ob B1 25 (lgCells (.slice av k cv) ⟨f0, notes f0 k, f0 - 1⟩), .rd R0] wr) := hs0
        clear hr0 hs0 HQ hk hlt
        have hfa : 1 ≤ f0 := HF.out.1
        have hfb : f0 ≤ 1099511627776 := by have := HF.out; have := HNb.out; omega
        have HI0 : Hid (LgIn ⟨f0, notes f0 k, f0 - 1⟩) := Lib.hid (notes_in (by have := HF.out; omega) (by have := HF.out; omega) (by have := HF.out; have := HNb.out; omega) HNb.out.2 (Int.le_refl _) (by omega))
        have HG0 : Hid (GoodLg ⟨f0, notes f0 k, f0 - 1⟩) := Lib.hid (notes_good (by have := HF.out; omega) (by have := HF.out; omega) (by have := HF.out; omega) (by have := HF.out; omega) HNb.out.2)
        have HG1 : Hid (GoodLg ⟨f0, notes f0 k, f0⟩) := Lib.hid (notes_good (by have := HF.out; omega) (by have := HF.out; omega) (by have := HF.out; omega) (by have := HF.out; omega) HNb.out.2)
        have HI1 : Hid (LgIn ⟨f0, notes f0 k, f0⟩) := Lib.hid (notes_in (by have := HF.out; omega) (by have := HF.out; omega) (by have := HF.out; have := HNb.out; omega) HNb.out.2 (by omega) (by have := HNb.out; omega))
        have HFo : Hid (forceR ⟨f0, notes f0 k, f0 - 1⟩ f0 = (⟨f0, notes f0 k, f0⟩, 0)) := Lib.hid (force_first HI0.out (by have := HNb.out; omega))
        obtain ⟨m, rfl⟩ : ∃ m, k = m + 1 := ⟨k - 1, by have := HNb.out; omega⟩
        have HCu : Hid (cutR ⟨f0, notes f0 (m + 1), f0⟩ (f0 + 1) = (⟨f0 + 1, notes (f0 + 1) m, f0⟩, 0)) := Lib.hid (cut_first HI1.out (by have := HF.out; have := HNb.out; omega))
        have HI2 : Hid (LgIn ⟨f0 + 1, notes (f0 + 1) m, f0⟩) := Lib.hid (notes_in (by have := HF.out; omega) (by have := HF.out; have := HNb.out; omega) (by have := HF.out; have := HNb.out; omega) (by have := HNb.out; omega) (by omega) (by have := HNb.out; omega))
        have HG2 : Hid (GoodLg ⟨f0 + 1, notes (f0 + 1) m, f0⟩) := Lib.hid (notes_good (by have := HF.out; omega) (by have := HF.out; omega) (by have := HF.out; omega) (by have := HF.out; omega) (by have := HNb.out; omega))
        have HGn : Hid (GoodEn (note 0)) := Lib.hid (note_good (by decide) (by decide))
        have hwf1 : wrap64 (f0 + 1) = f0 + 1 := IntWalk.wrap64_in _ (by have := HF.out; omega)
        have HWf : Hid ((Lit.int .i64 (f0 + 1)).wf = true) := Lib.hid (wf_of (by have := HF.out; omega) (by have := HF.out; omega))
        have hmN : wrap64 (((m + 1 : Nat) : Int) + 1) = ((m + 1 : Nat) : Int) + 1 := IntWalk.wrap64_in _ (by have := HNb.out; omega)
        have hmN1 : wrap64 (((m + 1 : Nat) : Int) - 1) = (m : Int) := by rw [show (((m + 1 : Nat) : Int) - 1) = (m : Int) by omega]; exact IntWalk.wrap64_in _ (by have := HNb.out; omega)
        have HX := HFx
        have HA0 : Hid (appendR ⟨f0, notes f0 (m + 1), f0 - 1⟩ (note 0) = (lgNil, 0, 21)) := Lib.hid (append_full 0 HI0.out (by have := HX.out; omega))
        have HA2 : Hid (appendR ⟨f0 + 1, notes (f0 + 1) m, f0⟩ (note 0) = (lgNil, 0, 21)) := Lib.hid (append_full 0 HI2.out (by have := HF.out; have := HX.out; omega))
        go_wp2_with (first | ((with_reducible refine wpList_load_ob 25 (.tmp 6) B1 (lgCells (.slice av (m + 1) cv) ⟨f0, notes f0 (m + 1), f0 - 1⟩) 25 HUG.out ?_ ?_ ?_ ?_ ?_); (exact rfl); (exact (HS60.out).get 0 rfl); (exact rfl); (exact info_lg); simp only [Act.put, List.setIfInBounds_toArray, List.set_cons_zero, List.set_cons_succ]) | ((with_reducible refine wpList_build_v (d := some 50) 31 (.agg (enCells (note 0)).toArray) ?_ ?_); (intro W; simp only [List.map_toArray, List.map_cons, List.map_nil]; exact build_note0 W); simp only [Act.put, List.setIfInBounds_toArray, List.set_cons_zero, List.set_cons_succ]))
        refine (lg_as3 HA0.out (append_lg (note 0) _ HLg0.out ((HS60.out).reads 1 rfl) HG0.out HGn.out)).mono ?_
        rintro e w62 ⟨vx, Rx, rfl, hrd, hin, hnew, hb⟩
        obtain ⟨ax, cx, hv, _⟩ := id hrd
        have hv2 : vx = .slice ax (0) cx := by rw [hv]; show Value.slice _ (List.length lgNil.ents) _ = _; first | rfl | simp only [List.length_append, notes_length, List.length_cons, List.length_nil, Nat.zero_add]
        clear hv
        subst hv2
        have HLgx := Lib.hid hrd
        have HS62 : Hid (Hp w [.ob B1 25 (lgCells (.slice av (m + 1) cv) ⟨f0, notes f0 (m + 1), f0 - 1⟩), .rd R0, .rd Rx] w62) := (HS60.out).addrd hb Rx hin (fun r hr => (hnew r hr).elim .inl (fun h => .inr ⟨.rd R0, List.mem_of_getElem? (i := 1) rfl, h⟩))
        clear hb hin hnew hrd
        clear HS60
        go_upto_region 13 with (first | ((with_reducible refine wpList_alloc_ob 25 (lgCells nilSl lgNil) ?_ ?_); (exact alloc_lg); simp only [Act.put, List.setIfInBounds_toArray, List.set_cons_zero, List.set_cons_succ]) | ((with_reducible refine wpList_store_ob 25 (.tmp 8) (w62.heap.size) (lgCells (.slice ax (0) cx) lgNil) (lgCells nilSl lgNil) 25 ?_ ?_ ?_ ?_ ?_ ?_ ?_); (exact rfl); (exact rfl); (exact ((HS62.out).put 25 (lgCells nilSl lgNil)).get 3 rfl); (exact info_lg); (exact rfl); (exact (oneCell_lg _ _ _ _)); skip))
        have HS63 : Hid (Hp w [.ob B1 25 (lgCells (.slice av (m + 1) cv) ⟨f0, notes f0 (m + 1), f0 - 1⟩), .rd R0, .rd Rx, .ob (w62.heap.size) 25 (lgCells (.slice ax (0) cx) lgNil)] ((w62.alloc (.cells (lgCells nilSl lgNil).toArray 25)).setRow (w62.heap.size) (lgCells (.slice ax (0) cx) lgNil).toArray)) := ((HS62.out).put 25 (lgCells nilSl lgNil)).row 3 rfl (lgCells (.slice ax (0) cx) lgNil)
        clear HS62
        generalize ((w62.alloc (.cells (lgCells nilSl lgNil).toArray 25)).setRow (w62.heap.size) (lgCells (.slice ax (0) cx) lgNil).toArray) = w63 at *
        generalize w62.heap.size = B2 at *
        have q0 : w63.cell? ⟨B1, 0, none⟩ = some (.int .i64 f0) := (HS63.out).at 0 rfl 0 rfl
        have q8 : w63.cell? ⟨B2, 1, none⟩ = some (.slice ax 0 cx) := (HS63.out).at 3 rfl 1 rfl
        go_wp2_with (first | ((with_reducible refine wpList_load_ob 25 (.tmp 6) B1 (lgCells (.slice av (m + 1) cv) ⟨f0, notes f0 (m + 1), f0 - 1⟩) 25 HUG.out ?_ ?_ ?_ ?_ ?_); (exact rfl); (exact (HS63.out).get 0 rfl); (exact rfl); (exact info_lg); simp only [Act.put, List.setIfInBounds_toArray, List.set_cons_zero, List.set_cons_succ]))
        refine (lg_as HFo.out (force_lg f0 _ HLg0.out ((HS63.out).reads 1 rfl) HG0.out)).mono ?_
        rintro e w64 ⟨vy, Ry, rfl, hrd, hin, hnew, hb⟩
        obtain ⟨ay, cy, hv, _⟩ := id hrd
        have hv2 : vy = .slice ay (m + 1) cy := by rw [hv]; show Value.slice _ (List.length (notes f0 (m + 1))) _ = _; first | rfl | simp only [List.length_append, notes_length, List.length_cons, List.length_nil, Nat.zero_add]
        clear hv
        subst hv2
        have HLgy := Lib.hid hrd
        have HS64 : Hid (Hp w [.ob B1 25 (lgCells (.slice av (m + 1) cv) ⟨f0, notes f0 (m + 1), f0 - 1⟩), .rd R0, .rd Rx, .ob B2 25 (lgCells (.slice ax (0) cx) lgNil), .rd Ry] w64) := (HS63.out).addrd hb Ry hin (fun r hr => (hnew r hr).elim .inl (fun h => .inr ⟨.rd R0, List.mem_of_getElem? (i := 1) rfl, h⟩))
        clear hb hin hnew hrd
        clear HS63
        go_upto_region 19 with (first | ((with_reducible refine wpList_alloc_ob 25 (lgCells nilSl lgNil) ?_ ?_); (exact alloc_lg); simp only [Act.put, List.setIfInBounds_toArray, List.set_cons_zero, List.set_cons_succ]) | ((with_reducible refine wpList_store_ob 25 (.tmp 11) (w64.heap.size) (lgCells (.slice ay (m + 1) cy) ⟨f0, notes f0 (m + 1), f0⟩) (lgCells nilSl lgNil) 25 ?_ ?_ ?_ ?_ ?_ ?_ ?_); (exact rfl); (exact rfl); (exact ((HS64.out).put 25 (lgCells nilSl lgNil)).get 5 rfl); (exact info_lg); (exact rfl); (exact (oneCell_lg _ _ _ _)); skip))
        have HS65 : Hid (Hp w [.ob B1 25 (lgCells (.slice av (m + 1) cv) ⟨f0, notes f0 (m + 1), f0 - 1⟩), .rd R0, .rd Rx, .ob B2 25 (lgCells (.slice ax (0) cx) lgNil), .rd Ry, .ob (w64.heap.size) 25 (lgCells (.slice ay (m + 1) cy) ⟨f0, notes f0 (m + 1), f0⟩)] ((w64.alloc (.cells (lgCells nilSl lgNil).toArray 25)).setRow (w64.heap.size) (lgCells (.slice ay (m + 1) cy) ⟨f0, notes f0 (m + 1), f0⟩).toArray)) := ((HS64.out).put 25 (lgCells nilSl lgNil)).row 5 rfl (lgCells (.slice ay (m + 1) cy) ⟨f0, notes f0 (m + 1), f0⟩)
        clear HS64
        generalize ((w64.alloc (.cells (lgCells nilSl lgNil).toArray 25)).setRow (w64.heap.size) (lgCells (.slice ay (m + 1) cy) ⟨f0, notes f0 (m + 1), f0⟩).toArray) = w65 at *
        generalize w64.heap.size = B3 at *
        have q0 : w65.cell? ⟨B1, 0, none⟩ = some (.int .i64 f0) := (HS65.out).at 0 rfl 0 rfl
        go_wp2_with (first | ((with_reducible refine wpList_load_ob 25 (.tmp 11) B3 (lgCells (.slice ay (m + 1) cy) ⟨f0, notes f0 (m + 1), f0⟩) 25 HUG.out ?_ ?_ ?_ ?_ ?_); (exact rfl); (exact (HS65.out).get 5 rfl); (exact rfl); (exact info_lg); simp only [Act.put, List.setIfInBounds_toArray, List.set_cons_zero, List.set_cons_succ]))
        refine (lg_as HCu.out (cut_lg (f0 + 1) _ HLgy.out ((HS65.out).reads 4 rfl) HG1.out HWf.out)).mono ?_
        rintro e w66 ⟨vz, Rz, rfl, hrd, hin, hnew, hb⟩
        obtain ⟨az, cz, hv, _⟩ := id hrd
        have hv2 : vz = .slice az (m) cz := by rw [hv]; show Value.slice _ (List.length (notes (f0 + 1) m)) _ = _; first | rfl | simp only [List.length_append, notes_length, List.length_cons, List.length_nil, Nat.zero_add]
        clear hv
        subst hv2
        have HLgz := Lib.hid hrd
        have HS66 : Hid (Hp w [.ob B1 25 (lgCells (.slice av (m + 1) cv) ⟨f0, notes f0 (m + 1), f0 - 1⟩), .rd R0, .rd Rx, .ob B2 25 (lgCells (.slice ax (0) cx) lgNil), .rd Ry, .ob B3 25 (lgCells (.slice ay (m + 1) cy) ⟨f0, notes f0 (m + 1), f0⟩), .rd Rz] w66) := (HS65.out).addrd hb Rz hin (fun r hr => (hnew r hr).elim .inl (fun h => .inr ⟨.rd Ry, List.mem_of_getElem? (i := 4) rfl, h⟩))
        clear hb hin hnew hrd
        clear HS65
        go_wp2_with (first | ((with_reducible refine wpList_store_ob 25 (.tmp 11) B3 (lgCells (.slice az (m) cz) ⟨f0 + 1, notes (f0 + 1) m, f0⟩) (lgCells (.slice ay (m + 1) cy) ⟨f0, notes f0 (m + 1), f0⟩) 25 ?_ ?_ ?_ ?_ ?_ ?_ ?_); (exact rfl); (exact rfl); (exact (HS66.out).get 5 rfl); (exact info_lg); (exact rfl); (exact (oneCell_lg _ _ _ _)); skip) | ((with_reducible refine wpList_load_ob 25 (.tmp 11) B3 (lgCells (.slice az (m) cz) ⟨f0 + 1, notes (f0 + 1) m, f0⟩) 25 HUG.out ?_ ?_ ?_ ?_ ?_); (exact rfl); (exact ((HS66.out).row 5 rfl (lgCells (.slice az (m) cz) ⟨f0 + 1, notes (f0 + 1) m, f0⟩)).get 5 rfl); (exact rfl); (exact info_lg); simp only [Act.put, List.setIfInBounds_toArray, List.set_cons_zero, List.set_cons_succ]) | ((with_reducible refine wpList_build_v (d := some 97) 31 (.agg (enCells (note 0)).toArray) ?_ ?_); (intro W; simp only [List.map_toArray, List.map_cons, List.map_nil]; exact build_note0 W); simp only [Act.put, List.setIfInBounds_toArray, List.set_cons_zero, List.set_cons_succ]))
        refine (lg_as3 HA2.out (append_lg (note 0) _ HLgz.out (((HS66.out).row 5 rfl (lgCells (.slice az (m) cz) ⟨f0 + 1, notes (f0 + 1) m, f0⟩)).reads 6 rfl) HG2.out HGn.out)).mono ?_
        rintro e w67 ⟨vu, Ru, rfl, hrd, hin, hnew, hb⟩
        obtain ⟨au, cu, hv, _⟩ := id hrd
        have hv2 : vu = .slice au (0) cu := by rw [hv]; show Value.slice _ (List.length lgNil.ents) _ = _; first | rfl | simp only [List.length_append, notes_length, List.length_cons, List.length_nil, Nat.zero_add]
        clear hv
        subst hv2
        have HLgu := Lib.hid hrd
        have HS67 : Hid (Hp w [.ob B1 25 (lgCells (.slice av (m + 1) cv) ⟨f0, notes f0 (m + 1), f0 - 1⟩), .rd R0, .rd Rx, .ob B2 25 (lgCells (.slice ax (0) cx) lgNil), .rd Ry, .ob B3 25 (lgCells (.slice az (m) cz) ⟨f0 + 1, notes (f0 + 1) m, f0⟩), .rd Rz, .rd Ru] w67) := ((HS66.out).row 5 rfl (lgCells (.slice az (m) cz) ⟨f0 + 1, notes (f0 + 1) m, f0⟩)).addrd hb Ru hin (fun r hr => (hnew r hr).elim .inl (fun h => .inr ⟨.rd Rz, List.mem_of_getElem? (i := 6) rfl, h⟩))
        clear hb hin hnew hrd
        clear HS66
        go_upto_region 21 with (first | ((with_reducible refine wpList_alloc_ob 25 (lgCells nilSl lgNil) ?_ ?_); (exact alloc_lg); simp only [Act.put, List.setIfInBounds_toArray, List.set_cons_zero, List.set_cons_succ]) | ((with_reducible refine wpList_store_ob 25 (.tmp 14) (w67.heap.size) (lgCells (.slice au (0) cu) lgNil) (lgCells nilSl lgNil) 25 ?_ ?_ ?_ ?_ ?_ ?_ ?_); (exact rfl); (exact rfl); (exact ((HS67.out).put 25 (lgCells nilSl lgNil)).get 8 rfl); (exact info_lg); (exact rfl); (exact (oneCell_lg _ _ _ _)); skip))
        have HS68 : Hid (Hp w [.ob B1 25 (lgCells (.slice av (m + 1) cv) ⟨f0, notes f0 (m + 1), f0 - 1⟩), .rd R0, .rd Rx, .ob B2 25 (lgCells (.slice ax (0) cx) lgNil), .rd Ry, .ob B3 25 (lgCells (.slice az (m) cz) ⟨f0 + 1, notes (f0 + 1) m, f0⟩), .rd Rz, .rd Ru, .ob (w67.heap.size) 25 (lgCells (.slice au (0) cu) lgNil)] ((w67.alloc (.cells (lgCells nilSl lgNil).toArray 25)).setRow (w67.heap.size) (lgCells (.slice au (0) cu) lgNil).toArray)) := ((HS67.out).put 25 (lgCells nilSl lgNil)).row 8 rfl (lgCells (.slice au (0) cu) lgNil)
        clear HS67
        generalize ((w67.alloc (.cells (lgCells nilSl lgNil).toArray 25)).setRow (w67.heap.size) (lgCells (.slice au (0) cu) lgNil).toArray) = w68 at *
        generalize w67.heap.size = B4 at *
        have q11 : w68.cell? ⟨B3, 1, none⟩ = some (.slice az m cz) := (HS68.out).at 5 rfl 1 rfl
        try simp only [notes_length] at q11
        go_wp2_with fail
        go_ret
        exact ⟨by first | rfl | simp, (HS68.out).old⟩
  case false =>
    have b0 : w3.cell? ⟨B1, 0, none⟩ = some (.int .i64 1) := (HS3.out).at 0 rfl 0 rfl
    have b2 : w3.cell? ⟨B1, 2, none⟩ = some (.int .i64 0) := (HS3.out).at 0 rfl 2 rfl
    have g2 : w3.frozen? ⟨B1, 2, none⟩ = false := (HS3.out).frozen 0 rfl 2
    have hw4 : wrap64 0 = 0 := IntWalk.wrap64_in _ (by omega)
    have hset := (HS3.out).set 0 rfl 2 (.int .i64 0)
    obtain ⟨f0, hf⟩ : ∃ f0 : Int, f0 = 1 := ⟨_, rfl⟩
    have hf0 : 1 ≤ f0 ∧ f0 + (N : Int) ≤ 1099511627777 := by omega
    have HFx : Hid (f0 ≤ 1 ∧ 1 ≤ f0) := Lib.hid (by omega)
    have HSet : Hid (Hp w [.ob B1 25 (lgCells nilSl ⟨f0, notes f0 0, f0 - 1⟩)] (w3.setCell ⟨B1, 2, none⟩ (.int .i64 0))) := Lib.hid (by subst hf; exact hset)
    clear hset hf
    go_wp2_with fail
    clear HS3
    generalize (w3.setCell ⟨B1, 2, none⟩ (.int .i64 0)) = wz at *
    have HF := Lib.hid hf0
    clear hN hN1 hN2 hr3 hwN hwl hw3 l0 l1 hf0 b0 b2 g2 hw4
    go_loopw [7] (fun i wr => ∃ (k : Nat) (v : Value), k ≤ N ∧ i = .int .i64 k ∧ Hp w [.ob B1 25 (lgCells v ⟨f0, notes f0 k, f0 - 1⟩), .sl v 31 13 k (entRow (notes f0 k))] wr) (fun i _ => N - (intOf i).toNat)
    case atStart => exact ⟨0, nilSl, Nat.zero_le _, rfl, (HSet.out).nil 31 13⟩
    case round =>
      clear HSet
      obtain ⟨k, v, hk, rfl, hs⟩ := hrel
      obtain ⟨av, cv, rfl⟩ := own_slice (hs.own 1 rfl)
      have HQ := Lib.hid hs
      clear hs
      by_cases hlt : k < N
      · have hki : (k : Int) < (N : Int) := by omega
        have HKl := Lib.hid hlt
        have hwk : wrap64 (f0 + (k : Int)) = f0 + (k : Int) := IntWalk.wrap64_in _ (by have := HF.out; omega)
        have hfa : 1 ≤ f0 := HF.out.1
        have hfb : f0 ≤ 1099511627776 := by have := HF.out; have := HNb.out; omega
        have b1 : wr.cell? ⟨B1, 1, none⟩ = some (.slice av k cv) := HQ.out.at 0 rfl 1 rfl
        have b0 : wr.cell? ⟨B1, 0, none⟩ = some (.int .i64 f0) := HQ.out.at 0 rfl 0 rfl
        clear hlt hk
        go_wp2_with (first | ((with_reducible refine wpList_build_v (d := some 44) 31 (.agg (enCells (note (f0 + (k : Int)))).toArray) ?_ ?_); (intro W; simp only [List.map_toArray, List.map_cons, List.map_nil]; exact build_note (f0 + (k : Int)) W); simp only [Act.put, List.setIfInBounds_toArray, List.set_cons_zero, List.set_cons_succ]) | ((with_reducible refine wpList_build_obs 23 1 elem_en HUX.out [enCells (note (f0 + (k : Int)))] ?_ ?_ ?_ ?_ ?_ ?_); (exact (List.forall_mem_cons.2 ⟨rfl, (fun _ h => absurd h List.not_mem_nil)⟩)); (exact Nat.succ_pos _); (simp only [List.length_cons, List.length_nil]; omega); (exact rfl); (simp only [List.map_toArray, List.map_cons, List.map_nil, List.zipIdx_cons, List.zipIdx_nil]; exact rfl); simp only [Act.put, List.setIfInBounds_toArray, List.set_cons_zero, List.set_cons_succ]) | ((with_reducible refine wpList_append_hp ((HQ.out).put 31 (([enCells (note (f0 + (k : Int)))] : List (List Value)).flatMap id)) (.tmp 39) (.tmp 45) 23 1 (v := (.slice av k cv)) (e := 31) (z := 13) (n := k) (xs := entRow (notes f0 k)) ?_ 2 (b := (wr.heap.size)) (t' := 31) (ys := ([enCells (note (f0 + (k : Int)))] : List (List Value)).flatMap id) ?_ HUX.out elem_en 1 1 ?_ ?_ ?_ ?_ ?_ ?_); (exact rfl); (exact rfl); (exact rfl); (exact rfl); (exact rfl); (exact (all_one_en _)); (exact (by have := HKl.out; have := HNb.out; omega))))
        intro v31 w31 hs hnil
        have HS32 : Hid (Hp w [.ob B1 25 (lgCells (.slice av k cv) ⟨f0, notes f0 k, f0 - 1⟩), .sl v31 31 13 (k + 1) ((entRow (notes f0 k)) ++ (([enCells (note (f0 + (k : Int)))] : List (List Value)).flatMap id)), .ob (wr.heap.size) 31 (([enCells (note (f0 + (k : Int)))] : List (List Value)).flatMap id)] w31) := hs
        clear hs
        clear HQ
        generalize wr.heap.size = B2 at *
        obtain ⟨ag, cg, rfl⟩ := own_slice (HS32.out.own 1 rfl)
        have b1 : w31.cell? ⟨B1, 1, none⟩ = some (.slice av k cv) := HS32.out.at 0 rfl 1 rfl
        have f1 : w31.frozen? ⟨B1, 1, none⟩ = false := HS32.out.frozen 0 rfl 1
        have hset := (HS32.out).set 0 rfl 1 (.slice ag (k + 1) cg)
        have hset2 : Hp w [.ob B1 25 (lgCells (.slice ag (k + 1) cg) ⟨f0, notes f0 (k + 1), f0 - 1⟩), .sl (.slice ag (k + 1) cg) 31 13 (k + 1) (entRow (notes f0 (k + 1)))] (w31.setCell ⟨B1, 1, none⟩ (.slice ag (k + 1) cg)) := by
          have h3 : Hp w [.ob B1 25 (lgCells (.slice ag (k + 1) cg) ⟨f0, notes f0 (k + 1), f0 - 1⟩), .sl (.slice ag (k + 1) cg) 31 13 (k + 1) (entRow (notes f0 k) ++ (([enCells (note (f0 + (k : Int)))] : List (List Value)).flatMap id))] (w31.setCell ⟨B1, 1, none⟩ (.slice ag (k + 1) cg)) := hset.pull [0, 1] rfl (pull_nd hset.nd [0, 1] rfl (by decide))
          have e3 : entRow (notes f0 (k + 1)) = entRow (notes f0 k) ++ (([enCells (note (f0 + (k : Int)))] : List (List Value)).flatMap id) := by rw [notes_succ, entRow_append, entRow_one, List.flatMap_cons, List.flatMap_nil, List.append_nil]; rfl
          rw [e3]
          exact h3
        have HSet := Lib.hid hset2
        clear hset hset2
        go_wp2_with fail
        go_roundw
        case rel => exact ⟨k + 1, .slice ag (k + 1) cg, by have := HKl.out; omega, by go_num, HSet.out⟩
        case measure => simp [intOf]; have := HKl.out; omega
      · obtain rfl : k = N := by omega
        obtain ⟨R0, hr0, hs0⟩ := Hp.ownrd (A := [.ob B1 25 (lgCells (.slice av k cv) ⟨f0, notes f0 k, f0 - 1⟩)]) HQ.out
        have HLg0 : Hid (LgRd (.slice av k cv) ⟨f0, notes f0 k, f0 - 1⟩ R0) := Lib.hid (by show SlRd _ 13 (notes f0 k).length (entRow (notes f0 k)) R0; rw [notes_length]; exact hr0)
        have HS60 : Hid (Hp w [.ob B1 25 (lgCells (.slice av k cv) ⟨f0, notes f0 k, f0 - 1⟩), .rd R0] wr) := hs0
        clear hr0 hs0 HQ hk hlt
        have hfa : 1 ≤ f0 := HF.out.1
        have hfb : f0 ≤ 1099511627776 := by have := HF.out; have := HNb.out; omega
        have HI0 : Hid (LgIn ⟨f0, notes f0 k, f0 - 1⟩) := Lib.hid (notes_in (by have := HF.out; omega) (by have := HF.out; omega) (by have := HF.out; have := HNb.out; omega) HNb.out.2 (Int.le_refl _) (by omega))
        have HG0 : Hid (GoodLg ⟨f0, notes f0 k, f0 - 1⟩) := Lib.hid (notes_good (by have := HF.out; omega) (by have := HF.out; omega) (by have := HF.out; omega) (by have := HF.out; omega) HNb.out.2)
        have HG1 : Hid (GoodLg ⟨f0, notes f0 k, f0⟩) := Lib.hid (notes_good (by have := HF.out; omega) (by have := HF.out; omega) (by have := HF.out; omega) (by have := HF.out; omega) HNb.out.2)
        have HI1 : Hid (LgIn ⟨f0, notes f0 k, f0⟩) := Lib.hid (notes_in (by have := HF.out; omega) (by have := HF.out; omega) (by have := HF.out; have := HNb.out; omega) HNb.out.2 (by omega) (by have := HNb.out; omega))
        have HFo : Hid (forceR ⟨f0, notes f0 k, f0 - 1⟩ f0 = (⟨f0, notes f0 k, f0⟩, 0)) := Lib.hid (force_first HI0.out (by have := HNb.out; omega))
        obtain ⟨m, rfl⟩ : ∃ m, k = m + 1 := ⟨k - 1, by have := HNb.out; omega⟩
        have HCu : Hid (cutR ⟨f0, notes f0 (m + 1), f0⟩ (f0 + 1) = (⟨f0 + 1, notes (f0 + 1) m, f0⟩, 0)) := Lib.hid (cut_first HI1.out (by have := HF.out; have := HNb.out; omega))
        have HI2 : Hid (LgIn ⟨f0 + 1, notes (f0 + 1) m, f0⟩) := Lib.hid (notes_in (by have := HF.out; omega) (by have := HF.out; have := HNb.out; omega) (by have := HF.out; have := HNb.out; omega) (by have := HNb.out; omega) (by omega) (by have := HNb.out; omega))
        have HG2 : Hid (GoodLg ⟨f0 + 1, notes (f0 + 1) m, f0⟩) := Lib.hid (notes_good (by have := HF.out; omega) (by have := HF.out; omega) (by have := HF.out; omega) (by have := HF.out; omega) (by have := HNb.out; omega))
        have HGn : Hid (GoodEn (note 0)) := Lib.hid (note_good (by decide) (by decide))
        have hwf1 : wrap64 (f0 + 1) = f0 + 1 := IntWalk.wrap64_in _ (by have := HF.out; omega)
        have HWf : Hid ((Lit.int .i64 (f0 + 1)).wf = true) := Lib.hid (wf_of (by have := HF.out; omega) (by have := HF.out; omega))
        have hmN : wrap64 (((m + 1 : Nat) : Int) + 1) = ((m + 1 : Nat) : Int) + 1 := IntWalk.wrap64_in _ (by have := HNb.out; omega)
        have hmN1 : wrap64 (((m + 1 : Nat) : Int) - 1) = (m : Int) := by rw [show (((m + 1 : Nat) : Int) - 1) = (m : Int) by omega]; exact IntWalk.wrap64_in _ (by have := HNb.out; omega)
        by_cases hx : m + 1 = 4096
        · have HX := Lib.hid hx
          have hxb : (((m + 1 : Nat) : Int) == 4096) = true := by rw [hx]; rfl
          clear hx
          have HA0 : Hid (appendR ⟨f0, notes f0 (m + 1), f0 - 1⟩ (note 0) = (lgNil, 0, 21)) := Lib.hid (append_full 0 HI0.out (by have := HX.out; omega))
          have HA2 : Hid (appendR ⟨f0 + 1, notes (f0 + 1) m, f0⟩ (note 0) = (⟨f0 + 1, notes (f0 + 1) m ++ [note (f0 + 1 + (m : Nat))], f0⟩, f0 + 1 + (m : Nat), 0)) := Lib.hid (append_more 0 HI2.out (by have := HNb.out; omega) (by have := HFx.out; have := HNb.out; omega))
          go_wp2_with (first | ((with_reducible refine wpList_load_ob 25 (.tmp 6) B1 (lgCells (.slice av (m + 1) cv) ⟨f0, notes f0 (m + 1), f0 - 1⟩) 25 HUG.out ?_ ?_ ?_ ?_ ?_); (exact rfl); (exact (HS60.out).get 0 rfl); (exact rfl); (exact info_lg); simp only [Act.put, List.setIfInBounds_toArray, List.set_cons_zero, List.set_cons_succ]) | ((with_reducible refine wpList_build_v (d := some 50) 31 (.agg (enCells (note 0)).toArray) ?_ ?_); (intro W; simp only [List.map_toArray, List.map_cons, List.map_nil]; exact build_note0 W); simp only [Act.put, List.setIfInBounds_toArray, List.set_cons_zero, List.set_cons_succ]))
          refine (lg_as3 HA0.out (append_lg (note 0) _ HLg0.out ((HS60.out).reads 1 rfl) HG0.out HGn.out)).mono ?_
          rintro e w62 ⟨vx, Rx, rfl, hrd, hin, hnew, hb⟩
          obtain ⟨ax, cx, hv, _⟩ := id hrd
          have hv2 : vx = .slice ax (0) cx := by rw [hv]; show Value.slice _ (List.length lgNil.ents) _ = _; first | rfl | simp only [List.length_append, notes_length, List.length_cons, List.length_nil, Nat.zero_add]
          clear hv
          subst hv2
          have HLgx := Lib.hid hrd
          have HS62 : Hid (Hp w [.ob B1 25 (lgCells (.slice av (m + 1) cv) ⟨f0, notes f0 (m + 1), f0 - 1⟩), .rd R0, .rd Rx] w62) := (HS60.out).addrd hb Rx hin (fun r hr => (hnew r hr).elim .inl (fun h => .inr ⟨.rd R0, List.mem_of_getElem? (i := 1) rfl, h⟩))
          clear hb hin hnew hrd
          clear HS60
          go_upto_region 13 with (first | ((with_reducible refine wpList_alloc_ob 25 (lgCells nilSl lgNil) ?_ ?_); (exact alloc_lg); simp only [Act.put, List.setIfInBounds_toArray, List.set_cons_zero, List.set_cons_succ]) | ((with_reducible refine wpList_store_ob 25 (.tmp 8) (w62.heap.size) (lgCells (.slice ax (0) cx) lgNil) (lgCells nilSl lgNil) 25 ?_ ?_ ?_ ?_ ?_ ?_ ?_); (exact rfl); (exact rfl); (exact ((HS62.out).put 25 (lgCells nilSl lgNil)).get 3 rfl); (exact info_lg); (exact rfl); (exact (oneCell_lg _ _ _ _)); skip))
          have HS63 : Hid (Hp w [.ob B1 25 (lgCells (.slice av (m + 1) cv) ⟨f0, notes f0 (m + 1), f0 - 1⟩), .rd R0, .rd Rx, .ob (w62.heap.size) 25 (lgCells (.slice ax (0) cx) lgNil)] ((w62.alloc (.cells (lgCells nilSl lgNil).toArray 25)).setRow (w62.heap.size) (lgCells (.slice ax (0) cx) lgNil).toArray)) := ((HS62.out).put 25 (lgCells nilSl lgNil)).row 3 rfl (lgCells (.slice ax (0) cx) lgNil)
          clear HS62
          generalize ((w62.alloc (.cells (lgCells nilSl lgNil).toArray 25)).setRow (w62.heap.size) (lgCells (.slice ax (0) cx) lgNil).toArray) = w63 at *
          generalize w62.heap.size = B2 at *
          have q0 : w63.cell? ⟨B1, 0, none⟩ = some (.int .i64 f0) := (HS63.out).at 0 rfl 0 rfl
          have q8 : w63.cell? ⟨B2, 1, none⟩ = some (.slice ax 0 cx) := (HS63.out).at 3 rfl 1 rfl
          go_wp2_with (first | ((with_reducible refine wpList_load_ob 25 (.tmp 6) B1 (lgCells (.slice av (m + 1) cv) ⟨f0, notes f0 (m + 1), f0 - 1⟩) 25 HUG.out ?_ ?_ ?_ ?_ ?_); (exact rfl); (exact (HS63.out).get 0 rfl); (exact rfl); (exact info_lg); simp only [Act.put, List.setIfInBounds_toArray, List.set_cons_zero, List.set_cons_succ]))
          refine (lg_as HFo.out (force_lg f0 _ HLg0.out ((HS63.out).reads 1 rfl) HG0.out)).mono ?_
          rintro e w64 ⟨vy, Ry, rfl, hrd, hin, hnew, hb⟩
          obtain ⟨ay, cy, hv, _⟩ := id hrd
          have hv2 : vy = .slice ay (m + 1) cy := by rw [hv]; show Value.slice _ (List.length (notes f0 (m + 1))) _ = _; first | rfl | simp only [List.length_append, notes_length, List.length_cons, List.length_nil, Nat.zero_add]
          clear hv
          subst hv2
          have HLgy := Lib.hid hrd
          have HS64 : Hid (Hp w [.ob B1 25 (lgCells (.slice av (m + 1) cv) ⟨f0, notes f0 (m + 1), f0 - 1⟩), .rd R0, .rd Rx, .ob B2 25 (lgCells (.slice ax (0) cx) lgNil), .rd Ry] w64) := (HS63.out).addrd hb Ry hin (fun r hr => (hnew r hr).elim .inl (fun h => .inr ⟨.rd R0, List.mem_of_getElem? (i := 1) rfl, h⟩))
          clear hb hin hnew hrd
          clear HS63
          go_upto_region 19 with (first | ((with_reducible refine wpList_alloc_ob 25 (lgCells nilSl lgNil) ?_ ?_); (exact alloc_lg); simp only [Act.put, List.setIfInBounds_toArray, List.set_cons_zero, List.set_cons_succ]) | ((with_reducible refine wpList_store_ob 25 (.tmp 11) (w64.heap.size) (lgCells (.slice ay (m + 1) cy) ⟨f0, notes f0 (m + 1), f0⟩) (lgCells nilSl lgNil) 25 ?_ ?_ ?_ ?_ ?_ ?_ ?_); (exact rfl); (exact rfl); (exact ((HS64.out).put 25 (lgCells nilSl lgNil)).get 5 rfl); (exact info_lg); (exact rfl); (exact (oneCell_lg _ _ _ _)); skip))
          have HS65 : Hid (Hp w [.ob B1 25 (lgCells (.slice av (m + 1) cv) ⟨f0, notes f0 (m + 1), f0 - 1⟩), .rd R0, .rd Rx, .ob B2 25 (lgCells (.slice ax (0) cx) lgNil), .rd Ry, .ob (w64.heap.size) 25 (lgCells (.slice ay (m + 1) cy) ⟨f0, notes f0 (m + 1), f0⟩)] ((w64.alloc (.cells (lgCells nilSl lgNil).toArray 25)).setRow (w64.heap.size) (lgCells (.slice ay (m + 1) cy) ⟨f0, notes f0 (m + 1), f0⟩).toArray)) := ((HS64.out).put 25 (lgCells nilSl lgNil)).row 5 rfl (lgCells (.slice ay (m + 1) cy) ⟨f0, notes f0 (m + 1), f0⟩)
          clear HS64
          generalize ((w64.alloc (.cells (lgCells nilSl lgNil).toArray 25)).setRow (w64.heap.size) (lgCells (.slice ay (m + 1) cy) ⟨f0, notes f0 (m + 1), f0⟩).toArray) = w65 at *
          generalize w64.heap.size = B3 at *
          have q0 : w65.cell? ⟨B1, 0, none⟩ = some (.int .i64 f0) := (HS65.out).at 0 rfl 0 rfl
          go_wp2_with (first | ((with_reducible refine wpList_load_ob 25 (.tmp 11) B3 (lgCells (.slice ay (m + 1) cy) ⟨f0, notes f0 (m + 1), f0⟩) 25 HUG.out ?_ ?_ ?_ ?_ ?_); (exact rfl); (exact (HS65.out).get 5 rfl); (exact rfl); (exact info_lg); simp only [Act.put, List.setIfInBounds_toArray, List.set_cons_zero, List.set_cons_succ]))
          refine (lg_as HCu.out (cut_lg (f0 + 1) _ HLgy.out ((HS65.out).reads 4 rfl) HG1.out HWf.out)).mono ?_
          rintro e w66 ⟨vz, Rz, rfl, hrd, hin, hnew, hb⟩
          obtain ⟨az, cz, hv, _⟩ := id hrd
          have hv2 : vz = .slice az (m) cz := by rw [hv]; show Value.slice _ (List.length (notes (f0 + 1) m)) _ = _; first | rfl | simp only [List.length_append, notes_length, List.length_cons, List.length_nil, Nat.zero_add]
          clear hv
          subst hv2
          have HLgz := Lib.hid hrd
          have HS66 : Hid (Hp w [.ob B1 25 (lgCells (.slice av (m + 1) cv) ⟨f0, notes f0 (m + 1), f0 - 1⟩), .rd R0, .rd Rx, .ob B2 25 (lgCells (.slice ax (0) cx) lgNil), .rd Ry, .ob B3 25 (lgCells (.slice ay (m + 1) cy) ⟨f0, notes f0 (m + 1), f0⟩), .rd Rz] w66) := (HS65.out).addrd hb Rz hin (fun r hr => (hnew r hr).elim .inl (fun h => .inr ⟨.rd Ry, List.mem_of_getElem? (i := 4) rfl, h⟩))
          clear hb hin hnew hrd
          clear HS65
          go_wp2_with (first | ((with_reducible refine wpList_store_ob 25 (.tmp 11) B3 (lgCells (.slice az (m) cz) ⟨f0 + 1, notes (f0 + 1) m, f0⟩) (lgCells (.slice ay (m + 1) cy) ⟨f0, notes f0 (m + 1), f0⟩) 25 ?_ ?_ ?_ ?_ ?_ ?_ ?_); (exact rfl); (exact rfl); (exact (HS66.out).get 5 rfl); (exact info_lg); (exact rfl); (exact (oneCell_lg _ _ _ _)); skip) | ((with_reducible refine wpList_load_ob 25 (.tmp 11) B3 (lgCells (.slice az (m) cz) ⟨f0 + 1, notes (f0 + 1) m, f0⟩) 25 HUG.out ?_ ?_ ?_ ?_ ?_); (exact rfl); (exact ((HS66.out).row 5 rfl (lgCells (.slice az (m) cz) ⟨f0 + 1, notes (f0 + 1) m, f0⟩)).get 5 rfl); (exact rfl); (exact info_lg); simp only [Act.put, List.setIfInBounds_toArray, List.set_cons_zero, List.set_cons_succ]) | ((with_reducible refine wpList_build_v (d := some 97) 31 (.agg (enCells (note 0)).toArray) ?_ ?_); (intro W; simp only [List.map_toArray, List.map_cons, List.map_nil]; exact build_note0 W); simp only [Act.put, List.setIfInBounds_toArray, List.set_cons_zero, List.set_cons_succ]))
          refine (lg_as3 HA2.out (append_lg (note 0) _ HLgz.out (((HS66.out).row 5 rfl (lgCells (.slice az (m) cz) ⟨f0 + 1, notes (f0 + 1) m, f0⟩)).reads 6 rfl) HG2.out HGn.out)).mono ?_
          rintro e w67 ⟨vu, Ru, rfl, hrd, hin, hnew, hb⟩
          obtain ⟨au, cu, hv, _⟩ := id hrd
          have hv2 : vu = .slice au (m + 1) cu := by rw [hv]; show Value.slice _ (List.length (notes (f0 + 1) m ++ [note (f0 + 1 + (m : Nat))])) _ = _; first | rfl | simp only [List.length_append, notes_length, List.length_cons, List.length_nil, Nat.zero_add]
          clear hv
          subst hv2
          have HLgu := Lib.hid hrd
          have HS67 : Hid (Hp w [.ob B1 25 (lgCells (.slice av (m + 1) cv) ⟨f0, notes f0 (m + 1), f0 - 1⟩), .rd R0, .rd Rx, .ob B2 25 (lgCells (.slice ax (0) cx) lgNil), .rd Ry, .ob B3 25 (lgCells (.slice az (m) cz) ⟨f0 + 1, notes (f0 + 1) m, f0⟩), .rd Rz, .rd Ru] w67) := ((HS66.out).row 5 rfl (lgCells (.slice az (m) cz) ⟨f0 + 1, notes (f0 + 1) m, f0⟩)).addrd hb Ru hin (fun r hr => (hnew r hr).elim .inl (fun h => .inr ⟨.rd Rz, List.mem_of_getElem? (i := 6) rfl, h⟩))
          clear hb hin hnew hrd
          clear HS66
          go_upto_region 21 with (first | ((with_reducible refine wpList_alloc_ob 25 (lgCells nilSl lgNil) ?_ ?_); (exact alloc_lg); simp only [Act.put, List.setIfInBounds_toArray, List.set_cons_zero, List.set_cons_succ]) | ((with_reducible refine wpList_store_ob 25 (.tmp 14) (w67.heap.size) (lgCells (.slice au (m + 1) cu) ⟨f0 + 1, notes (f0 + 1) m ++ [note (f0 + 1 + (m : Nat))], f0⟩) (lgCells nilSl lgNil) 25 ?_ ?_ ?_ ?_ ?_ ?_ ?_); (exact rfl); (exact rfl); (exact ((HS67.out).put 25 (lgCells nilSl lgNil)).get 8 rfl); (exact info_lg); (exact rfl); (exact (oneCell_lg _ _ _ _)); skip))
          have HS68 : Hid (Hp w [.ob B1 25 (lgCells (.slice av (m + 1) cv) ⟨f0, notes f0 (m + 1), f0 - 1⟩), .rd R0, .rd Rx, .ob B2 25 (lgCells (.slice ax (0) cx) lgNil), .rd Ry, .ob B3 25 (lgCells (.slice az (m) cz) ⟨f0 + 1, notes (f0 + 1) m, f0⟩), .rd Rz, .rd Ru, .ob (w67.heap.size) 25 (lgCells (.slice au (m + 1) cu) ⟨f0 + 1, notes (f0 + 1) m ++ [note (f0 + 1 + (m : Nat))], f0⟩)] ((w67.alloc (.cells (lgCells nilSl lgNil).toArray 25)).setRow (w67.heap.size) (lgCells (.slice au (m + 1) cu) ⟨f0 + 1, notes (f0 + 1) m ++ [note (f0 + 1 + (m : Nat))], f0⟩).toArray)) := ((HS67.out).put 25 (lgCells nilSl lgNil)).row 8 rfl (lgCells (.slice au (m + 1) cu) ⟨f0 + 1, notes (f0 + 1) m ++ [note (f0 + 1 + (m : Nat))], f0⟩)
          clear HS67
          generalize ((w67.alloc (.cells (lgCells nilSl lgNil).toArray 25)).setRow (w67.heap.size) (lgCells (.slice au (m + 1) cu) ⟨f0 + 1, notes (f0 + 1) m ++ [note (f0 + 1 + (m : Nat))], f0⟩).toArray) = w68 at *
          generalize w67.heap.size = B4 at *
          have q11 : w68.cell? ⟨B3, 1, none⟩ = some (.slice az m cz) := (HS68.out).at 5 rfl 1 rfl
          try simp only [notes_length] at q11
          have e1 : ∀ a b : Int, a = b → (a == b) = true := fun a b h => by rw [h]; simp
          have k1 := e1 (f0 + 1 + (m : Int)) ((m : Int) + 1 + 1) (by have := HFx.out; omega)
          have k2 := e1 (f0 + 1 + (m : Int)) (((m + 1 : Nat) : Int) + 1) (by have := HFx.out; omega)
          clear e1
          go_wp2_with fail
          go_ret
          exact ⟨by first | rfl | simp, (HS68.out).old⟩
        · have HX : Hid (m + 1 < 4096) := Lib.hid (by have := HNb.out; omega)
          have hxb : (((m + 1 : Nat) : Int) == 4096) = false := by rw [beq_eq_false_iff_ne]; have := HX.out; omega
          clear hx
          have HA0 : Hid (appendR ⟨f0, notes f0 (m + 1), f0 - 1⟩ (note 0) = (⟨f0, notes f0 (m + 1) ++ [note (f0 + (m + 1 : Nat))], f0 - 1⟩, f0 + (m + 1 : Nat), 0)) := Lib.hid (append_more 0 HI0.out (by have := HX.out; omega) (by have := HFx.out; have := HX.out; omega))
          have HA2 : Hid (appendR ⟨f0 + 1, notes (f0 + 1) m, f0⟩ (note 0) = (⟨f0 + 1, notes (f0 + 1) m ++ [note (f0 + 1 + (m : Nat))], f0⟩, f0 + 1 + (m : Nat), 0)) := Lib.hid (append_more 0 HI2.out (by have := HNb.out; omega) (by have := HFx.out; have := HNb.out; omega))
          go_wp2_with (first | ((with_reducible refine wpList_load_ob 25 (.tmp 6) B1 (lgCells (.slice av (m + 1) cv) ⟨f0, notes f0 (m + 1), f0 - 1⟩) 25 HUG.out ?_ ?_ ?_ ?_ ?_); (exact rfl); (exact (HS60.out).get 0 rfl); (exact rfl); (exact info_lg); simp only [Act.put, List.setIfInBounds_toArray, List.set_cons_zero, List.set_cons_succ]) | ((with_reducible refine wpList_build_v (d := some 50) 31 (.agg (enCells (note 0)).toArray) ?_ ?_); (intro W; simp only [List.map_toArray, List.map_cons, List.map_nil]; exact build_note0 W); simp only [Act.put, List.setIfInBounds_toArray, List.set_cons_zero, List.set_cons_succ]))
          refine (lg_as3 HA0.out (append_lg (note 0) _ HLg0.out ((HS60.out).reads 1 rfl) HG0.out HGn.out)).mono ?_
          rintro e w62 ⟨vx, Rx, rfl, hrd, hin, hnew, hb⟩
          obtain ⟨ax, cx, hv, _⟩ := id hrd
          have hv2 : vx = .slice ax (m + 1 + 1) cx := by rw [hv]; show Value.slice _ (List.length (notes f0 (m + 1) ++ [note (f0 + (m + 1 : Nat))])) _ = _; first | rfl | simp only [List.length_append, notes_length, List.length_cons, List.length_nil, Nat.zero_add]
          clear hv
          subst hv2
          have HLgx := Lib.hid hrd
          have HS62 : Hid (Hp w [.ob B1 25 (lgCells (.slice av (m + 1) cv) ⟨f0, notes f0 (m + 1), f0 - 1⟩), .rd R0, .rd Rx] w62) := (HS60.out).addrd hb Rx hin (fun r hr => (hnew r hr).elim .inl (fun h => .inr ⟨.rd R0, List.mem_of_getElem? (i := 1) rfl, h⟩))
          clear hb hin hnew hrd
          clear HS60
          go_upto_region 13 with (first | ((with_reducible refine wpList_alloc_ob 25 (lgCells nilSl lgNil) ?_ ?_); (exact alloc_lg); simp only [Act.put, List.setIfInBounds_toArray, List.set_cons_zero, List.set_cons_succ]) | ((with_reducible refine wpList_store_ob 25 (.tmp 8) (w62.heap.size) (lgCells (.slice ax (m + 1 + 1) cx) ⟨f0, notes f0 (m + 1) ++ [note (f0 + (m + 1 : Nat))], f0 - 1⟩) (lgCells nilSl lgNil) 25 ?_ ?_ ?_ ?_ ?_ ?_ ?_); (exact rfl); (exact rfl); (exact ((HS62.out).put 25 (lgCells nilSl lgNil)).get 3 rfl); (exact info_lg); (exact rfl); (exact (oneCell_lg _ _ _ _)); skip))
          have HS63 : Hid (Hp w [.ob B1 25 (lgCells (.slice av (m + 1) cv) ⟨f0, notes f0 (m + 1), f0 - 1⟩), .rd R0, .rd Rx, .ob (w62.heap.size) 25 (lgCells (.slice ax (m + 1 + 1) cx) ⟨f0, notes f0 (m + 1) ++ [note (f0 + (m + 1 : Nat))], f0 - 1⟩)] ((w62.alloc (.cells (lgCells nilSl lgNil).toArray 25)).setRow (w62.heap.size) (lgCells (.slice ax (m + 1 + 1) cx) ⟨f0, notes f0 (m + 1) ++ [note (f0 + (m + 1 : Nat))], f0 - 1⟩).toArray)) := ((HS62.out).put 25 (lgCells nilSl lgNil)).row 3 rfl (lgCells (.slice ax (m + 1 + 1) cx) ⟨f0, notes f0 (m + 1) ++ [note (f0 + (m + 1 : Nat))], f0 - 1⟩)
          clear HS62
          generalize ((w62.alloc (.cells (lgCells nilSl lgNil).toArray 25)).setRow (w62.heap.size) (lgCells (.slice ax (m + 1 + 1) cx) ⟨f0, notes f0 (m + 1) ++ [note (f0 + (m + 1 : Nat))], f0 - 1⟩).toArray) = w63 at *
          generalize w62.heap.size = B2 at *
          have e1 : ∀ a b : Int, a = b → (a != b) = false := fun a b h => by rw [h]; simp
          have j1 := e1 (f0 + ((m : Int) + 1)) ((m : Int) + 1 + 1) (by have := HFx.out; omega)
          have j2 := e1 (f0 + (((m + 1 : Nat) : Int))) (((m + 1 : Nat) : Int) + 1) (by have := HFx.out; omega)
          clear e1
          have q0 : w63.cell? ⟨B1, 0, none⟩ = some (.int .i64 f0) := (HS63.out).at 0 rfl 0 rfl
          go_wp2_with (first | ((with_reducible refine wpList_load_ob 25 (.tmp 6) B1 (lgCells (.slice av (m + 1) cv) ⟨f0, notes f0 (m + 1), f0 - 1⟩) 25 HUG.out ?_ ?_ ?_ ?_ ?_); (exact rfl); (exact (HS63.out).get 0 rfl); (exact rfl); (exact info_lg); simp only [Act.put, List.setIfInBounds_toArray, List.set_cons_zero, List.set_cons_succ]))
          refine (lg_as HFo.out (force_lg f0 _ HLg0.out ((HS63.out).reads 1 rfl) HG0.out)).mono ?_
          rintro e w64 ⟨vy, Ry, rfl, hrd, hin, hnew, hb⟩
          obtain ⟨ay, cy, hv, _⟩ := id hrd
          have hv2 : vy = .slice ay (m + 1) cy := by rw [hv]; show Value.slice _ (List.length (notes f0 (m + 1))) _ = _; first | rfl | simp only [List.length_append, notes_length, List.length_cons, List.length_nil, Nat.zero_add]
          clear hv
          subst hv2
          have HLgy := Lib.hid hrd
          have HS64 : Hid (Hp w [.ob B1 25 (lgCells (.slice av (m + 1) cv) ⟨f0, notes f0 (m + 1), f0 - 1⟩), .rd R0, .rd Rx, .ob B2 25 (lgCells (.slice ax (m + 1 + 1) cx) ⟨f0, notes f0 (m + 1) ++ [note (f0 + (m + 1 : Nat))], f0 - 1⟩), .rd Ry] w64) := (HS63.out).addrd hb Ry hin (fun r hr => (hnew r hr).elim .inl (fun h => .inr ⟨.rd R0, List.mem_of_getElem? (i := 1) rfl, h⟩))
          clear hb hin hnew hrd
          clear HS63
          go_upto_region 19 with (first | ((with_reducible refine wpList_alloc_ob 25 (lgCells nilSl lgNil) ?_ ?_); (exact alloc_lg); simp only [Act.put, List.setIfInBounds_toArray, List.set_cons_zero, List.set_cons_succ]) | ((with_reducible refine wpList_store_ob 25 (.tmp 11) (w64.heap.size) (lgCells (.slice ay (m + 1) cy) ⟨f0, notes f0 (m + 1), f0⟩) (lgCells nilSl lgNil) 25 ?_ ?_ ?_ ?_ ?_ ?_ ?_); (exact rfl); (exact rfl); (exact ((HS64.out).put 25 (lgCells nilSl lgNil)).get 5 rfl); (exact info_lg); (exact rfl); (exact (oneCell_lg _ _ _ _)); skip))
          have HS65 : Hid (Hp w [.ob B1 25 (lgCells (.slice av (m + 1) cv) ⟨f0, notes f0 (m + 1), f0 - 1⟩), .rd R0, .rd Rx, .ob B2 25 (lgCells (.slice ax (m + 1 + 1) cx) ⟨f0, notes f0 (m + 1) ++ [note (f0 + (m + 1 : Nat))], f0 - 1⟩), .rd Ry, .ob (w64.heap.size) 25 (lgCells (.slice ay (m + 1) cy) ⟨f0, notes f0 (m + 1), f0⟩)] ((w64.alloc (.cells (lgCells nilSl lgNil).toArray 25)).setRow (w64.heap.size) (lgCells (.slice ay (m + 1) cy) ⟨f0, notes f0 (m + 1), f0⟩).toArray)) := ((HS64.out).put 25 (lgCells nilSl lgNil)).row 5 rfl (lgCells (.slice ay (m + 1) cy) ⟨f0, notes f0 (m + 1), f0⟩)
          clear HS64
          generalize ((w64.alloc (.cells (lgCells nilSl lgNil).toArray 25)).setRow (w64.heap.size) (lgCells (.slice ay (m + 1) cy) ⟨f0, notes f0 (m + 1), f0⟩).toArray) = w65 at *
          generalize w64.heap.size = B3 at *
          have q0 : w65.cell? ⟨B1, 0, none⟩ = some (.int .i64 f0) := (HS65.out).at 0 rfl 0 rfl
          go_wp2_with (first | ((with_reducible refine wpList_load_ob 25 (.tmp 11) B3 (lgCells (.slice ay (m + 1) cy) ⟨f0, notes f0 (m + 1), f0⟩) 25 HUG.out ?_ ?_ ?_ ?_ ?_); (exact rfl); (exact (HS65.out).get 5 rfl); (exact rfl); (exact info_lg); simp only [Act.put, List.setIfInBounds_toArray, List.set_cons_zero, List.set_cons_succ]))
          refine (lg_as HCu.out (cut_lg (f0 + 1) _ HLgy.out ((HS65.out).reads 4 rfl) HG1.out HWf.out)).mono ?_
          rintro e w66 ⟨vz, Rz, rfl, hrd, hin, hnew, hb⟩
          obtain ⟨az, cz, hv, _⟩ := id hrd
          have hv2 : vz = .slice az (m) cz := by rw [hv]; show Value.slice _ (List.length (notes (f0 + 1) m)) _ = _; first | rfl | simp only [List.length_append, notes_length, List.length_cons, List.length_nil, Nat.zero_add]
          clear hv
          subst hv2
          have HLgz := Lib.hid hrd
          have HS66 : Hid (Hp w [.ob B1 25 (lgCells (.slice av (m + 1) cv) ⟨f0, notes f0 (m + 1), f0 - 1⟩), .rd R0, .rd Rx, .ob B2 25 (lgCells (.slice ax (m + 1 + 1) cx) ⟨f0, notes f0 (m + 1) ++ [note (f0 + (m + 1 : Nat))], f0 - 1⟩), .rd Ry, .ob B3 25 (lgCells (.slice ay (m + 1) cy) ⟨f0, notes f0 (m + 1), f0⟩), .rd Rz] w66) := (HS65.out).addrd hb Rz hin (fun r hr => (hnew r hr).elim .inl (fun h => .inr ⟨.rd Ry, List.mem_of_getElem? (i := 4) rfl, h⟩))
          clear hb hin hnew hrd
          clear HS65
          go_wp2_with (first | ((with_reducible refine wpList_store_ob 25 (.tmp 11) B3 (lgCells (.slice az (m) cz) ⟨f0 + 1, notes (f0 + 1) m, f0⟩) (lgCells (.slice ay (m + 1) cy) ⟨f0, notes f0 (m + 1), f0⟩) 25 ?_ ?_ ?_ ?_ ?_ ?_ ?_); (exact rfl); (exact rfl); (exact (HS66.out).get 5 rfl); (exact info_lg); (exact rfl); (exact (oneCell_lg _ _ _ _)); skip) | ((with_reducible refine wpList_load_ob 25 (.tmp 11) B3 (lgCells (.slice az (m) cz) ⟨f0 + 1, notes (f0 + 1) m, f0⟩) 25 HUG.out ?_ ?_ ?_ ?_ ?_); (exact rfl); (exact ((HS66.out).row 5 rfl (lgCells (.slice az (m) cz) ⟨f0 + 1, notes (f0 + 1) m, f0⟩)).get 5 rfl); (exact rfl); (exact info_lg); simp only [Act.put, List.setIfInBounds_toArray, List.set_cons_zero, List.set_cons_succ]) | ((with_reducible refine wpList_build_v (d := some 97) 31 (.agg (enCells (note 0)).toArray) ?_ ?_); (intro W; simp only [List.map_toArray, List.map_cons, List.map_nil]; exact build_note0 W); simp only [Act.put, List.setIfInBounds_toArray, List.set_cons_zero, List.set_cons_succ]))
          refine (lg_as3 HA2.out (append_lg (note 0) _ HLgz.out (((HS66.out).row 5 rfl (lgCells (.slice az (m) cz) ⟨f0 + 1, notes (f0 + 1) m, f0⟩)).reads 6 rfl) HG2.out HGn.out)).mono ?_
          rintro e w67 ⟨vu, Ru, rfl, hrd, hin, hnew, hb⟩
          obtain ⟨au, cu, hv, _⟩ := id hrd
          have hv2 : vu = .slice au (m + 1) cu := by rw [hv]; show Value.slice _ (List.length (notes (f0 + 1) m ++ [note (f0 + 1 + (m : Nat))])) _ = _; first | rfl | simp only [List.length_append, notes_length, List.length_cons, List.length_nil, Nat.zero_add]
          clear hv
          subst hv2
          have HLgu := Lib.hid hrd
          have HS67 : Hid (Hp w [.ob B1 25 (lgCells (.slice av (m + 1) cv) ⟨f0, notes f0 (m + 1), f0 - 1⟩), .rd R0, .rd Rx, .ob B2 25 (lgCells (.slice ax (m + 1 + 1) cx) ⟨f0, notes f0 (m + 1) ++ [note (f0 + (m + 1 : Nat))], f0 - 1⟩), .rd Ry, .ob B3 25 (lgCells (.slice az (m) cz) ⟨f0 + 1, notes (f0 + 1) m, f0⟩), .rd Rz, .rd Ru] w67) := ((HS66.out).row 5 rfl (lgCells (.slice az (m) cz) ⟨f0 + 1, notes (f0 + 1) m, f0⟩)).addrd hb Ru hin (fun r hr => (hnew r hr).elim .inl (fun h => .inr ⟨.rd Rz, List.mem_of_getElem? (i := 6) rfl, h⟩))
          clear hb hin hnew hrd
          clear HS66
          go_upto_region 21 with (first | ((with_reducible refine wpList_alloc_ob 25 (lgCells nilSl lgNil) ?_ ?_); (exact alloc_lg); simp only [Act.put, List.setIfInBounds_toArray, List.set_cons_zero, List.set_cons_succ]) | ((with_reducible refine wpList_store_ob 25 (.tmp 14) (w67.heap.size) (lgCells (.slice au (m + 1) cu) ⟨f0 + 1, notes (f0 + 1) m ++ [note (f0 + 1 + (m : Nat))], f0⟩) (lgCells nilSl lgNil) 25 ?_ ?_ ?_ ?_ ?_ ?_ ?_); (exact rfl); (exact rfl); (exact ((HS67.out).put 25 (lgCells nilSl lgNil)).get 8 rfl); (exact info_lg); (exact rfl); (exact (oneCell_lg _ _ _ _)); skip))
          have HS68 : Hid (Hp w [.ob B1 25 (lgCells (.slice av (m + 1) cv) ⟨f0, notes f0 (m + 1), f0 - 1⟩), .rd R0, .rd Rx, .ob B2 25 (lgCells (.slice ax (m + 1 + 1) cx) ⟨f0, notes f0 (m + 1) ++ [note (f0 + (m + 1 : Nat))], f0 - 1⟩), .rd Ry, .ob B3 25 (lgCells (.slice az (m) cz) ⟨f0 + 1, notes (f0 + 1) m, f0⟩), .rd Rz, .rd Ru, .ob (w67.heap.size) 25 (lgCells (.slice au (m + 1) cu) ⟨f0 + 1, notes (f0 + 1) m ++ [note (f0 + 1 + (m : Nat))], f0⟩)] ((w67.alloc (.cells (lgCells nilSl lgNil).toArray 25)).setRow (w67.heap.size) (lgCells (.slice au (m + 1) cu) ⟨f0 + 1, notes (f0 + 1) m ++ [note (f0 + 1 + (m : Nat))], f0⟩).toArray)) := ((HS67.out).put 25 (lgCells nilSl lgNil)).row 8 rfl (lgCells (.slice au (m + 1) cu) ⟨f0 + 1, notes (f0 + 1) m ++ [note (f0 + 1 + (m : Nat))], f0⟩)
          clear HS67
          generalize ((w67.alloc (.cells (lgCells nilSl lgNil).toArray 25)).setRow (w67.heap.size) (lgCells (.slice au (m + 1) cu) ⟨f0 + 1, notes (f0 + 1) m ++ [note (f0 + 1 + (m : Nat))], f0⟩).toArray) = w68 at *
          generalize w67.heap.size = B4 at *
          have q11 : w68.cell? ⟨B3, 1, none⟩ = some (.slice az m cz) := (HS68.out).at 5 rfl 1 rfl
          try simp only [notes_length] at q11
          have e1 : ∀ a b : Int, a = b → (a == b) = true := fun a b h => by rw [h]; simp
          have k1 := e1 (f0 + 1 + (m : Int)) ((m : Int) + 1 + 1) (by have := HFx.out; omega)
          have k2 := e1 (f0 + 1 + (m : Int)) (((m + 1 : Nat) : Int) + 1) (by have := HFx.out; omega)
          clear e1
          go_wp2_with fail
          go_ret
          exact ⟨by first | rfl | simp, (HS68.out).old⟩
end Go.Proofs.YtpmfdpkcnldpiaaDoor
