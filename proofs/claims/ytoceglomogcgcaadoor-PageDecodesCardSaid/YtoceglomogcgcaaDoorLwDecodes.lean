/- the law PageDecodes -/
import Derived.Test.YtoceglomogcgcaaDoorLwForms
import Derived.Test.YtoceglomogcgcaaDoorRfId
import Derived.Test.YtoceglomogcgcaaDoorDrBytes
import Derived.Test.YtoceglomogcgcaaDoorDrSpoilt
import Derived.Test.YtoceglomogcgcaaDoorPgTear
namespace Go.Proofs.YtoceglomogcgcaaDoor
open Go.RowKit

theorem newPg_good' (id : Int) (h0 : 0 ≤ id ∧ id < 64) : Good (newPg id) :=
  good_of rfl (fun c hc => by
    have : c = emptyCl := List.eq_of_mem_replicate hc
    subst this
    decide) ⟨by show _ ≤ id; omega, by show id ≤ _; omega⟩ ⟨by show _ ≤ (0 : Int); omega, by show (0 : Int) ≤ _; omega⟩
theorem idR_good (s : ByteArray) (id : Int) : Good (idR s id).1 := by
  unfold idR
  by_cases h1 : ¬ (0 ≤ id ∧ id < 64)
  · rw [if_pos h1]; exact newPg_good' 0 (by omega)
  · rw [if_neg h1]
    by_cases h2 : (decR s).2 = 7
    · rw [if_pos h2]; exact newPg_good' id (by omega)
    · rw [if_neg h2]
      by_cases h3 : (decR s).2 ≠ 0
      · rw [if_pos h3]; exact newPg_good' 0 (by omega)
      · rw [if_neg h3]
        by_cases h4 : (decR s).1.id ≠ id
        · rw [if_pos h4]; exact newPg_good' 0 (by omega)
        · rw [if_neg h4]; exact decR_good s
theorem identify_page (s : ByteArray) (id : Int) (w : World) (hs : s.size ≤ maxLen) (ht : TabAt w) :
    Calls Tryd.prog 27 #[.string s, .int .i64 id] w fun e w' => e = .returned (.tuple #[.agg (pgCells (idR s id).1).toArray, .int .i64 (idR s id).2]) ∧ Below w.heap.size w w' := identify_any s id w hs ht
theorem ridentify_page (s : ByteArray) (id : Int) (w : World) (hs : s.size ≤ maxLen) :
    Calls Tryd.prog 28 #[.string s, .int .i64 id] w fun e w' => e = .returned (.tuple #[.agg (pgCells (idR s id).1).toArray, .int .i64 (idR s id).2]) ∧ Below w.heap.size w w' := ridentify_any s id w hs
/-- a slice of texts lies at a block -/
def TextS (W : World) (B : Nat) (l : List ByteArray) : Prop := W.heap[B]? = some (.cells (l.map Value.string).toArray 9 (0, 0))
theorem TextS.get {W : World} {B j : Nat} {l : List ByteArray} (h : TextS W B l) (hj : j < l.length) : W.cell? ⟨B, j, none⟩ = some (.string l[j]) := by
  rw [cell_of_row W B j _ _ _ h]
  simp [List.getElem?_eq_getElem hj]
theorem TextS.besides {W W' : World} {B C : Nat} {l : List ByteArray} (h : TextS W B l) (hb : Besides C W W') (hC : B ≠ C) : TextS W' B l := (hb.block _ (Array.getElem?_eq_some_iff.1 h).1 hC).trans h
theorem TextS.calls {W W' : World} {B : Nat} {l : List ByteArray} (h : TextS W B l) (hb : Below W.heap.size W W') : TextS W' B l := (hb.block _ (Array.getElem?_eq_some_iff.1 h).1).trans h
/-- a slice of three numbers lies at a block -/
def NumS (W : World) (B : Nat) (a b c : Int) : Prop := W.heap[B]? = some (.cells #[.int .i64 a, .int .i64 b, .int .i64 c] 3 (0, 0))
theorem NumS.get {W : World} {B j : Nat} {a b c : Int} (h : NumS W B a b c) (hj : j < 3) : ∃ v, W.cell? ⟨B, j, none⟩ = some (.int .i64 v) := by
  match j, hj with
  | 0, _ => exact ⟨a, cell_of_row W B 0 _ _ _ h⟩
  | 1, _ => exact ⟨b, cell_of_row W B 1 _ _ _ h⟩
  | 2, _ => exact ⟨c, cell_of_row W B 2 _ _ _ h⟩
theorem NumS.calls {W W' : World} {B : Nat} {a b c : Int} (h : NumS W B a b c) (hb : Below W.heap.size W W') : NumS W' B a b c := (hb.block _ (Array.getElem?_eq_some_iff.1 h).1).trans h
theorem page_neq {r : Pg} (h : Good r) (W : World) : Sem.run Tryd.prog (binOp .neq 27 (.agg (pgCells r).toArray) (.agg (pgCells r).toArray)) W = .ok (.bool false) W := by
  have := run_page_neq r r h h W
  rw [samePg_self] at this
  exact this
/-- all that lies while the strings are gone through -/
structure DecEnv (w : World) (C B8 BS : Nat) (p : Pg) (l : List ByteArray) (W : World) : Prop where
  env : Env w C W
  pg : PgIn W B8 p
  tx : TextS W BS l
  n8 : B8 ≠ C
  nS : BS ≠ C
theorem DecEnv.calls {w W W' : World} {C B8 BS : Nat} {p : Pg} {l : List ByteArray} (h : DecEnv w C B8 BS p l W) (hb : Below W.heap.size W W') : DecEnv w C B8 BS p l W' := ⟨h.env.calls hb, h.pg.calls hb, h.tx.calls hb, h.n8, h.nS⟩
theorem DecEnv.besides {w W W' : World} {C B8 BS : Nat} {p : Pg} {l : List ByteArray} (h : DecEnv w C B8 BS p l W) (ht : TabAt w) (hb : Besides C W W') (hc : CodesOk W' C) : DecEnv w C B8 BS p l W' := ⟨h.env.besides ht hb hc, h.pg.besides hb h.n8, h.tx.besides hb h.nS, h.n8, h.nS⟩
theorem DecEnv.row {w W : World} {C B8 BS g : Nat} {p q : Pg} {l : List ByteArray} (h : DecEnv w C B8 BS p l W) (ht : TabAt w) (_hg : PgIn W g q) (h8 : g ≠ B8) (hS : g ≠ BS) (hC : C < g) (r : Pg) : DecEnv w C B8 BS p l (W.setRow g (pgCells r).toArray) := by
  have hle := h.env.le
  have hbl : Below (C + 1) W (W.setRow g (pgCells r).toArray) := below_setRow (Below.refl _ _) (by omega) _
  refine ⟨⟨h.env.old.trans (hbl.mono (by omega)), h.env.codes.below hbl (by omega), hle, ht.below (h.env.old.trans (hbl.mono (by omega)))⟩, (setRow_other _ _ _ _ (Ne.symm h8)).trans h.pg, (setRow_other _ _ _ _ (Ne.symm hS)).trans h.tx, h.n8, h.nS⟩
set_option maxHeartbeats 16000000 in
set_option maxRecDepth 20000 in
theorem decodes_any (x : Option Addr) (len cap : Nat) (zs : List Int) (s : ByteArray) (id : Int) (w : World) (hr : IsRow .u8 w x len cap zs) (hs : s.size ≤ maxLen) (ht : TabAt w) :
    Calls Tryd.prog 4 #[.slice x len cap, .string s, .int .i64 id] w fun e w' => e = .returned (.bool true) ∧ Below w.heap.size w w' := by
  unfold maxLen at hs
  have HT := Lib.hid ht
  have HR := Lib.hid hr
  clear ht hr
  by_cases hl : 600 < s.size
  · have d1 : decide (600 < (s.size : Int)) = true := by simp; omega
    go_enter Tryd.func4, Tryd.ntmps4
    go_wp2_with fail
    refine (awake_page _ HT.out).mono ?_
    rintro e w1 ⟨rfl, hb⟩
    go_wp2_with fail
    go_ret
    exact ⟨rfl, hb⟩
  have d1 : decide (600 < (s.size : Int)) = false := by simp; omega
  have HS : Hid (s.size ≤ 600) := by show _ ≤ _; omega
  clear hl hs
  go_enter Tryd.func4, Tryd.ntmps4
  go_wp2_with fail
  refine (awake_page _ HT.out).mono ?_
  rintro e w1 ⟨rfl, hb⟩
  have HR1 := Lib.hid (row_below HR.out hb)
  go_wp2_with fail
  refine (new_to 160 (by omega) _ _ _ zs _ HR1.out).mono ?_
  rintro e w2 ⟨rfl, hb2, hc2⟩
  have HE2 := Lib.hid (start_env hb hb2 hc2 HT.out)
  clear hb hb2 hc2 HR HR1 d1
  generalize w1.heap.size = C at *
  go_wp2_with fail
  refine (next_any C 5 _ HE2.out.codes (by omega)).mono ?_
  rintro e w3 ⟨pid, rfl, id0, id1, hb3, hc3⟩
  have HE3 := Lib.hid (HE2.out.besides HT.out hb3 hc3)
  have HId : Hid (0 ≤ pid ∧ pid < 64) := ⟨id0, by omega⟩
  clear hb3 hc3 id0 id1
  go_wp2_with fail
  refine (draw_page C pid _ HE3.out.codes).mono ?_
  rintro e w4 ⟨p, rfl, hp, hb4, hc4⟩
  have HE4 := Lib.hid (HE3.out.besides HT.out hb4 hc4)
  have HP := Lib.hid hp
  have HPl := Lib.hid hp.len
  clear hb4 hc4 hp HE2 HE3
  have HGa : Hid (PgIn (w4.alloc (.cells (pgCells (newPg 0)).toArray 27)) w4.heap.size (newPg 0)) := heap_alloc_last w4 _
  have HE5 := Lib.hid (HE4.out.calls (putPg_below w4 p))
  have HA5 := Lib.hid (putPg_at w4 p)
  have HN8 : Hid (w4.heap.size ≠ C) := by have := HE4.out.codes.lt; show _ ≠ _; omega
  have HDf : Hid (putPg w4 p = (w4.alloc (.cells (pgCells (newPg 0)).toArray 27)).setRow w4.heap.size (pgCells p).toArray) := rfl
  have HA5' := HA5
  rw [HDf.out] at HA5'
  go_wp2_with (first | ((with_reducible refine wpList_alloc_pg ?_); simp only [Act.put, List.setIfInBounds_toArray, List.set_cons_zero, List.set_cons_succ]) | ((with_reducible refine wpList_store_pg (.tmp 8) w4.heap.size p (newPg 0) ?_ ?_ ?_ ?_ ?_ ?_); (exact rfl); (exact rfl); (exact HGa.out); (exact HPl.out); (exact rfl); skip) | ((with_reducible refine wpList_load_pg (.tmp 8) w4.heap.size p ?_ ?_ ?_ ?_); (exact rfl); (exact HA5'.out); (exact HPl.out); simp only [Act.put, List.setIfInBounds_toArray, List.set_cons_zero, List.set_cons_succ]))
  rw [← HDf.out]
  clear HGa HE4 HA5'
  generalize putPg w4 p = w5 at *
  generalize w4.heap.size = B8 at *
  have HEn : Hid (∀ W : World, Calls Tryd.prog 16 #[.agg (pgCells p).toArray] W fun e w' => e = .returned (.tuple #[.string (ofL (encL p)), .int .i64 0]) ∧ Below W.heap.size W w') := fun W => by
    have := rencode_page (HP.out.good HId.out.1 HId.out.2) W
    rw [show encR p = (ofL (encL p), 0) from by unfold encR; rw [if_pos (HP.out.check HId.out.1 HId.out.2)]] at this
    exact this
  refine (HEn.out _).mono ?_
  rintro e w6 ⟨rfl, hb6⟩
  have HE6 := Lib.hid (HE5.out.calls hb6)
  have HA6 := Lib.hid (HA5.out.calls hb6)
  have HSz := Lib.hid (enc_size (HP.out.check HId.out.1 HId.out.2) HP.out.len)
  have HBl : Hid (∀ W, Calls Tryd.prog 22 #[] W fun e w' => e = .returned (.string (zeroS 256)) ∧ Below W.heap.size W w') := fun W => rblank W
  have HZz : Hid ((zeroS 256).size = 256) := zeroS_size 256
  clear hb6 HEn HE5 HA5 HDf
  generalize ofL (encL p) = S at *
  generalize zeroS 256 = Z at *
  go_wp2_with fail
  refine (spoilt_any C S _ HE6.out.codes (by rw [HSz.out]; omega)).mono ?_
  rintro e w7 ⟨s1, rfl, hs1, hb7, hc7⟩
  have HE7 := Lib.hid (HE6.out.besides HT.out hb7 hc7)
  have HA7 := Lib.hid (HA6.out.besides hb7 HN8.out)
  have HS1 : Hid (s1.size ≤ 257) := by show _ ≤ _; have := HSz.out; omega
  clear hb7 hc7 hs1 HE6 HA6
  go_wp2_with fail
  refine (HBl.out _).mono ?_
  rintro e w8 ⟨rfl, hb8⟩
  have HE8 := Lib.hid (HE7.out.calls hb8)
  have HA8 := Lib.hid (HA7.out.calls hb8)
  clear hb8 HE7 HA7
  go_wp2_with fail
  refine (spoilt_any C Z _ HE8.out.codes (by rw [HZz.out]; omega)).mono ?_
  rintro e w9 ⟨s2, rfl, hs2, hb9, hc9⟩
  have HE9 := Lib.hid (HE8.out.besides HT.out hb9 hc9)
  have HA9 := Lib.hid (HA8.out.besides hb9 HN8.out)
  have HS2 : Hid (s2.size ≤ 257) := by show _ ≤ _; have := HZz.out; omega
  clear hb9 hc9 hs2 HE8 HA8
  go_wp2_with fail
  refine (HBl.out _).mono ?_
  rintro e w10 ⟨rfl, hb10⟩
  have HE10 := Lib.hid (HE9.out.calls hb10)
  have HA10 := Lib.hid (HA9.out.calls hb10)
  clear hb10 HE9 HA9
  go_wp2_with fail
  refine (bytes_any C _ HE10.out.codes).mono ?_
  rintro e w11 ⟨s3, rfl, hs3, hb11, hc11⟩
  have HE11 := Lib.hid (HE10.out.besides HT.out hb11 hc11)
  have HA11 := Lib.hid (HA10.out.besides hb11 HN8.out)
  have HS3 := Lib.hid hs3
  clear hb11 hc11 hs3 HE10 HA10
  go_wp2_with fail
  refine (next_any C 257 _ HE11.out.codes (by omega)).mono ?_
  rintro e w12 ⟨k, rfl, k0, k1, hb12, hc12⟩
  obtain ⟨k, rfl⟩ := Int.eq_ofNat_of_zero_le k0
  have hk : k ≤ 256 := by omega
  have HE12 := Lib.hid (HE11.out.besides HT.out hb12 hc12)
  have HA12 := Lib.hid (HA11.out.besides hb12 HN8.out)
  have hSi : (S.size : Int) = 256 := by have := HSz.out; omega
  have hki : (k : Int) ≤ 256 := by omega
  have hk0 : (0 : Int) ≤ (k : Int) := by omega
  have HXs : Hid (∀ X ∈ [s, S, s1, s2, Z, s3, S.extract 0 k], X.size ≤ maxLen) := by
    intro X hX
    have e1 := HS.out
    have e2 := HSz.out
    have e3 := HS1.out
    have e4 := HS2.out
    have e5 := HZz.out
    have e6 := HS3.out
    have e7 : (S.extract 0 k).size ≤ 256 := by rw [ByteArray.size_extract]; omega
    unfold maxLen
    simp only [List.mem_cons, List.not_mem_nil, or_false] at hX
    rcases hX with rfl | rfl | rfl | rfl | rfl | rfl | rfl <;> omega
  have HL : Hid ([s, S, s1, s2, Z, s3, S.extract 0 k].length = 7) := rfl
  have HD0 : Hid (DecEnv w C B8 w12.heap.size p [s, S, s1, s2, Z, s3, S.extract 0 k] (w12.alloc (.cells #[.string s, .string S, .string s1, .string s2, .string Z, .string s3, .string (S.extract 0 k)] 9))) := by
    have hb : Below w12.heap.size w12 (w12.alloc (.cells #[.string s, .string S, .string s1, .string s2, .string Z, .string s3, .string (S.extract 0 k)] 9)) := (Below.refl _ _).alloc (Nat.le_refl _) _
    exact ⟨HE12.out.calls hb, HA12.out.calls hb, heap_alloc_last w12 _, HN8.out, by have := HE12.out.codes.lt; omega⟩
  clear hb12 hc12 k0 k1 hk HE11 HA11
  go_wp2_with fail
  generalize (w12.alloc (.cells #[.string s, .string S, .string s1, .string s2, .string Z, .string s3, .string (S.extract 0 k)] 9)) = w13 at *
  generalize [s, S, s1, s2, Z, s3, S.extract 0 k] = L at *
  clear HE12 HA12
  generalize w12.heap.size = BS at *
  go_loopw [57] (fun i wr => ∃ j : Nat, j ≤ 7 ∧ i = .int .i64 j ∧ DecEnv w C B8 BS p L wr) (fun i _ => 7 - (intOf i).toNat)
  case atStart => exact ⟨0, by omega, rfl, HD0.out⟩
  case round =>
    obtain ⟨j, hj, rfl, hen⟩ := hrel
    have HEr := Lib.hid hen
    clear hen
    by_cases hlt : j < 7
    · have hjl : j < L.length := by rw [HL.out]; exact hlt
      have hX := HEr.out.tx.get hjl
      have HXm := Lib.hid (HXs.out _ (List.getElem_mem hjl))
      generalize L[j] = X at *
      have HDc : Hid (∀ W, TabAt W → Calls Tryd.prog 25 #[.string X] W fun e w' => e = .returned (.tuple #[.agg (pgCells (decR X).1).toArray, .int .i64 (decR X).2]) ∧ Below W.heap.size W w') := fun W hW => decode_page X W HXm.out hW
      have HRc : Hid (∀ W, Calls Tryd.prog 26 #[.string X] W fun e w' => e = .returned (.tuple #[.agg (pgCells (decR X).1).toArray, .int .i64 (decR X).2]) ∧ Below W.heap.size W w') := fun W => rdecode_page X W HXm.out
      have HGd := Lib.hid (decR_good X)
      generalize decR X = rn at *
      obtain ⟨r, n⟩ := rn
      simp only at HDc HRc HGd
      have HRl := Lib.hid HGd.out.len
      go_wp2_with fail
      refine (HDc.out _ HEr.out.env.tab).mono ?_
      rintro e w20 ⟨rfl, hb20⟩
      have HE20 := Lib.hid (HEr.out.calls hb20)
      have HGa : Hid (PgIn (w20.alloc (.cells (pgCells (newPg 0)).toArray 27)) w20.heap.size (newPg 0)) := heap_alloc_last w20 _
      have HE21 := Lib.hid (HE20.out.calls (putPg_below w20 r))
      have HA21 := Lib.hid (putPg_at w20 r)
      have HDf : Hid (putPg w20 r = (w20.alloc (.cells (pgCells (newPg 0)).toArray 27)).setRow w20.heap.size (pgCells r).toArray) := rfl
      have HB13 : Hid (C < w20.heap.size ∧ w20.heap.size ≠ B8 ∧ w20.heap.size ≠ BS) := ⟨HE20.out.env.codes.lt, by have := HE20.out.pg.lt; omega, by have := (Array.getElem?_eq_some_iff.1 HE20.out.tx).1; omega⟩
      clear hb20 HDc
      go_wp2_with (first | ((with_reducible refine wpList_alloc_pg ?_); simp only [Act.put, List.setIfInBounds_toArray, List.set_cons_zero, List.set_cons_succ]) | ((with_reducible refine wpList_store_pg (.tmp 13) w20.heap.size r (newPg 0) ?_ ?_ ?_ ?_ ?_ ?_); (exact rfl); (exact rfl); (exact HGa.out); (exact HRl.out); (exact rfl); skip))
      rw [← HDf.out]
      clear HGa HE20 hX
      have hltB13 : w20.heap.size < (putPg w20 r).heap.size := HA21.out.lt
      have HLB := Lib.hid hltB13
      clear hltB13
      generalize putPg w20 r = w21 at *
      generalize w20.heap.size = B13 at *
      refine (HRc.out _).mono ?_
      rintro e w22 ⟨rfl, hb22⟩
      have HE22 := Lib.hid (HE21.out.calls hb22)
      have HA22 := Lib.hid (HA21.out.calls hb22)
      have HGb : Hid (PgIn (w22.alloc (.cells (pgCells (newPg 0)).toArray 27)) w22.heap.size (newPg 0)) := heap_alloc_last w22 _
      have HE23 := Lib.hid (HE22.out.calls (putPg_below w22 r))
      have HA23 := Lib.hid (HA22.out.calls (putPg_below w22 r))
      have HC23 := Lib.hid (putPg_at w22 r)
      have HB15 : Hid (C < w22.heap.size ∧ w22.heap.size ≠ B8 ∧ w22.heap.size ≠ BS ∧ B13 < w22.heap.size) := ⟨HE22.out.env.codes.lt, by have := HE22.out.pg.lt; omega, by have := (Array.getElem?_eq_some_iff.1 HE22.out.tx).1; omega, HA22.out.lt⟩
      have HDg : Hid (putPg w22 r = (w22.alloc (.cells (pgCells (newPg 0)).toArray 27)).setRow w22.heap.size (pgCells r).toArray) := rfl
      clear hb22 HE21 HA21 HRc
      have hne := page_neq HGd.out
      have HA23' := HA23
      have HC23' := HC23
      rw [HDg.out] at HA23' HC23'
      go_wp2_with (first | ((with_reducible refine wpList_alloc_pg ?_); simp only [Act.put, List.setIfInBounds_toArray, List.set_cons_zero, List.set_cons_succ]) | ((with_reducible refine wpList_store_pg (.tmp 15) w22.heap.size r (newPg 0) ?_ ?_ ?_ ?_ ?_ ?_); (exact rfl); (exact rfl); (exact HGb.out); (exact HRl.out); (exact rfl); skip) | ((with_reducible refine wpList_load_pg (.tmp 13) B13 r ?_ ?_ ?_ ?_); (exact rfl); (exact HA23'.out); (exact HRl.out); simp only [Act.put, List.setIfInBounds_toArray, List.set_cons_zero, List.set_cons_succ]) | ((with_reducible refine wpList_load_pg (.tmp 15) w22.heap.size r ?_ ?_ ?_ ?_); (exact rfl); (exact HC23'.out); (exact HRl.out); simp only [Act.put, List.setIfInBounds_toArray, List.set_cons_zero, List.set_cons_succ]))
      clear HGb HE22 HA22 HA23' HC23' hne
      have HDh := HDg
      generalize hW23 : ((w22.alloc (.cells (pgCells (newPg 0)).toArray 27)).setRow w22.heap.size (pgCells r).toArray) = w23 at *
      rw [HDh.out] at HE23 HA23 HC23
      clear HDh HDg hW23
      generalize w22.heap.size = B15 at *
      have c8 : w23.cell? ⟨B8, 0, none⟩ = some (.int .i64 p.id) := HE23.out.pg.cell 0
      have HCd : Hid (CodesOk w23.drew C) := HE23.out.env.codes.drew
      go_region_with (go_at_call 13; refine (next_any C 5 _ HCd.out (by omega)).mono ?_; rintro e w24 ⟨v3, rfl, v30, v31, hb24, hc24⟩; have HE24 := Lib.hid (HE23.out.besides HT.out ((Besides.refl _ _).drew.trans hb24) hc24); have HA24 := Lib.hid (PgIn.besides (w := w23.drew) HA23.out hb24 (by have := HB13.out; omega)); have HC24 := Lib.hid (PgIn.besides (w := w23.drew) HC23.out hb24 (by have := HB15.out; omega)); have c8' : w24.cell? ⟨B8, 0, none⟩ = some (.int .i64 p.id) := HE24.out.pg.cell 0; clear hb24 hc24 v30 v31)
      all_goals
        go_wp2_with fail
        try simp only [Act.put, List.getElem_toArray, List.getElem_cons_succ, List.getElem_cons_zero, List.setIfInBounds_toArray, List.set_cons_succ, List.set_cons_zero]
        have hbA : Below w24.heap.size w24 (w24.alloc (.cells #[.int .i64 id, .int .i64 p.id, .int .i64 v3] 3)) := (Below.refl _ _).alloc (Nat.le_refl _) _
        have HE25 := Lib.hid (HE24.out.calls hbA)
        have HA25 := Lib.hid (HA24.out.calls hbA)
        have HC25 := Lib.hid (HC24.out.calls hbA)
        have HN25 : Hid (NumS (w24.alloc (.cells #[.int .i64 id, .int .i64 p.id, .int .i64 v3] 3)) w24.heap.size id p.id v3) := heap_alloc_last w24 _
        have HNB : Hid (w24.heap.size ≠ B13 ∧ w24.heap.size ≠ B15) := ⟨by have := HA24.out.lt; omega, by have := HC24.out.lt; omega⟩
        clear hbA HE24 HA24 HC24 HE23 HA23 HC23 HCd c8'
        generalize w24.heap.size = BI at *
        go_loopw [86] (fun i wi => ∃ m : Nat, m ≤ 3 ∧ i = .int .i64 m ∧ DecEnv w C B8 BS p L wi ∧ NumS wi BI id p.id v3 ∧ (∃ q, PgIn wi B13 q ∧ q.cells.length = 16) ∧ (∃ q, PgIn wi B15 q ∧ q.cells.length = 16)) (fun i _ => 3 - (intOf i).toNat)
        case atStart => exact ⟨0, by omega, rfl, HE25.out, HN25.out, ⟨r, HA25.out, HRl.out⟩, ⟨r, HC25.out, HRl.out⟩⟩
        case round =>
          obtain ⟨m, hm, rfl, hen, hnu, ⟨qa, hqa, hqal⟩, ⟨qb, hqb, hqbl⟩⟩ := hrel
          have HEi := Lib.hid hen
          have HNi := Lib.hid hnu
          have HQa := Lib.hid hqa
          have HQal := Lib.hid hqal
          have HQb := Lib.hid hqb
          have HQbl := Lib.hid hqbl
          clear hen hnu hqa hqal hqb hqbl
          by_cases hml : m < 3
          · obtain ⟨v, hv⟩ := HNi.out.get hml
            have HIc : Hid (∀ W, TabAt W → Calls Tryd.prog 27 #[.string X, .int .i64 v] W fun e w' => e = .returned (.tuple #[.agg (pgCells (idR X v).1).toArray, .int .i64 (idR X v).2]) ∧ Below W.heap.size W w') := fun W hW => identify_page X v W HXm.out hW
            have HJc : Hid (∀ W, Calls Tryd.prog 28 #[.string X, .int .i64 v] W fun e w' => e = .returned (.tuple #[.agg (pgCells (idR X v).1).toArray, .int .i64 (idR X v).2]) ∧ Below W.heap.size W w') := fun W => ridentify_page X v W HXm.out
            have HGi := Lib.hid (idR_good X v)
            generalize idR X v = rn2 at *
            obtain ⟨r2, n2⟩ := rn2
            simp only at HIc HJc HGi
            have HRl2 := Lib.hid HGi.out.len
            go_wp2_with fail
            refine (HIc.out _ HEi.out.env.tab).mono ?_
            rintro e w30 ⟨rfl, hb30⟩
            have HE30 := Lib.hid (HEi.out.calls hb30)
            have HN30 := Lib.hid (HNi.out.calls hb30)
            have HQa30 := Lib.hid (HQa.out.calls hb30)
            have HQb30 := Lib.hid (HQb.out.calls hb30)
            have HE31 := Lib.hid (HE30.out.row HT.out HQa30.out HB13.out.2.1 HB13.out.2.2 HB13.out.1 r2)
            have HN31 : Hid (NumS (w30.setRow B13 (pgCells r2).toArray) BI id p.id v3) := (setRow_other _ _ _ _ (by have := HNB.out; omega)).trans HN30.out
            have HA31 : Hid (PgIn (w30.setRow B13 (pgCells r2).toArray) B13 r2) := setRow_heap _ _ _ _ _ _ HQa30.out
            have HB31 : Hid (PgIn (w30.setRow B13 (pgCells r2).toArray) B15 qb) := (setRow_other _ _ _ _ (by have := HB15.out; omega)).trans HQb30.out
            clear hb30 HIc hv
            go_wp2_with ((with_reducible refine wpList_store_pg (.tmp 13) B13 r2 qa ?_ ?_ ?_ ?_ ?_ ?_); (exact rfl); (exact rfl); (exact HQa30.out); (exact HRl2.out); (exact HQal.out); skip)
            clear HE30 HN30 HQa30 HQb30
            generalize w30.setRow B13 (pgCells r2).toArray = w31 at *
            refine (HJc.out _).mono ?_
            rintro e w32 ⟨rfl, hb32⟩
            have HE32 := Lib.hid (HE31.out.calls hb32)
            have HN32 := Lib.hid (HN31.out.calls hb32)
            have HA32 := Lib.hid (HA31.out.calls hb32)
            have HB32 := Lib.hid (HB31.out.calls hb32)
            have HE33 := Lib.hid (HE32.out.row HT.out HB32.out HB15.out.2.1 HB15.out.2.2.1 HB15.out.1 r2)
            have HN33 : Hid (NumS (w32.setRow B15 (pgCells r2).toArray) BI id p.id v3) := (setRow_other _ _ _ _ (by have := HNB.out; omega)).trans HN32.out
            have HA33 : Hid (PgIn (w32.setRow B15 (pgCells r2).toArray) B13 r2) := (setRow_other _ _ _ _ (by have := HB15.out; omega)).trans HA32.out
            have HB33 : Hid (PgIn (w32.setRow B15 (pgCells r2).toArray) B15 r2) := setRow_heap _ _ _ _ _ _ HB32.out
            have hne2 := page_neq HGi.out
            clear hb32 HJc HE31 HN31 HA31 HB31
            go_wp2_with (first | ((with_reducible refine wpList_store_pg (.tmp 15) B15 r2 qb ?_ ?_ ?_ ?_ ?_ ?_); (exact rfl); (exact rfl); (exact HB32.out); (exact HRl2.out); (exact HQbl.out); skip) | ((with_reducible refine wpList_load_pg (.tmp 13) B13 r2 ?_ ?_ ?_ ?_); (exact rfl); (exact HA33.out); (exact HRl2.out); simp only [Act.put, List.setIfInBounds_toArray, List.set_cons_zero, List.set_cons_succ]) | ((with_reducible refine wpList_load_pg (.tmp 15) B15 r2 ?_ ?_ ?_ ?_); (exact rfl); (exact HB33.out); (exact HRl2.out); simp only [Act.put, List.setIfInBounds_toArray, List.set_cons_zero, List.set_cons_succ]))
            go_roundw
            case rel => exact ⟨m + 1, by omega, by go_num, HE33.out, HN33.out, ⟨r2, HA33.out, HRl2.out⟩, ⟨r2, HB33.out, HRl2.out⟩⟩
            case measure => simp [intOf]; omega
          · obtain rfl : m = 3 := by omega
            go_wp2_with fail
            go_roundw
            case rel => exact ⟨j + 1, by omega, by go_num, HEi.out⟩
            case measure => simp [intOf]; omega
    · obtain rfl : j = 7 := by omega
      go_wp2_with fail
      go_ret
      exact ⟨rfl, HEr.out.env.old⟩
end Go.Proofs.YtoceglomogcgcaaDoor
