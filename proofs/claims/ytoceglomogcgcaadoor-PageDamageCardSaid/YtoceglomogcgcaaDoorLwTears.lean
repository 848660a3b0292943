/- the law PageTears -/
import Derived.Test.YtoceglomogcgcaaDoorLwEnv
import Derived.Test.YtoceglomogcgcaaDoorPgTear
namespace Go.Proofs.YtoceglomogcgcaaDoor
open Go.RowKit

/-- a slice of two strings lies at a block -/
def LoopS (B : Nat) (X1 X2 : ByteArray) (W : World) : Prop := W.heap[B]? = some (.cells #[.string X1, .string X2] 9 (0, 0))
theorem LoopS.get {B : Nat} {X1 X2 : ByteArray} {W : World} {j : Nat} (h : LoopS B X1 X2 W) (hj : j < 2) {Q : ByteArray → Prop} (h1 : Q X1) (h2 : Q X2) : ∃ X, W.cell? ⟨B, j, none⟩ = some (.string X) ∧ Q X := by
  match j, hj with
  | 0, _ => exact ⟨X1, cell_of_row W B 0 _ _ _ h, h1⟩
  | 1, _ => exact ⟨X2, cell_of_row W B 1 _ _ _ h, h2⟩
theorem idR_len (s : ByteArray) (id : Int) : (idR s id).1.cells.length = 16 := by
  unfold idR
  by_cases h1 : ¬ (0 ≤ id ∧ id < 64)
  · rw [if_pos h1]; rfl
  · rw [if_neg h1]
    by_cases h2 : (decR s).2 = 7
    · rw [if_pos h2]; rfl
    · rw [if_neg h2]
      by_cases h3 : (decR s).2 ≠ 0
      · rw [if_pos h3]; rfl
      · rw [if_neg h3]
        by_cases h4 : (decR s).1.id ≠ id
        · rw [if_pos h4]; rfl
        · rw [if_neg h4]; exact decR_len s
set_option maxHeartbeats 8000000 in
set_option maxRecDepth 20000 in
theorem tears_any (x : Option Addr) (len cap : Nat) (zs : List Int) (cut : Int) (bl : Bool) (w : World) (hr : IsRow .u8 w x len cap zs) (ht : TabAt w) (c0 : 0 ≤ cut) (c1 : cut ≤ 65535) :
    Calls Tryd.prog 8 #[.slice x len cap, .int .u16 cut, .bool bl] w fun e w' => e = .returned (.bool true) ∧ Below w.heap.size w w' := by
  have HT := Lib.hid ht
  have HR := Lib.hid hr
  obtain ⟨fs, hu⟩ := under_page
  have HU := Lib.hid hu
  have HZ0 := Lib.hid (size_pg (newPg 0) rfl)
  have HCut : Hid (0 ≤ cut ∧ cut ≤ 65535) := ⟨c0, c1⟩
  clear ht hr hu c0 c1
  go_enter Tryd.func8, Tryd.ntmps8
  go_wp2_with fail
  refine (awake_page _ HT.out).mono ?_
  rintro e w1 ⟨rfl, hb⟩
  have HR1 := Lib.hid (row_below HR.out hb)
  go_wp2_with fail
  refine (new_to 200 (by omega) _ _ _ zs _ HR1.out).mono ?_
  rintro e w2 ⟨rfl, hb2, hc2⟩
  have HE2 := Lib.hid (start_env hb hb2 hc2 HT.out)
  clear hb hb2 hc2 HR HR1
  generalize w1.heap.size = C at *
  go_wp2_with fail
  refine (next_any C 64 _ HE2.out.codes (by omega)).mono ?_
  rintro e w3 ⟨id, rfl, id0, id1, hb3, hc3⟩
  have HE3 := Lib.hid (HE2.out.besides HT.out hb3 hc3)
  have HId : Hid (0 ≤ id ∧ id < 64) := ⟨id0, by omega⟩
  clear hb3 hc3 id0 id1
  go_wp2_with fail
  refine (draw_page C id _ HE3.out.codes).mono ?_
  rintro e w4 ⟨p, rfl, hp, hb4, hc4⟩
  have HE4 := Lib.hid (HE3.out.besides HT.out hb4 hc4)
  have HP := Lib.hid hp
  clear hb4 hc4 hp
  go_wp2_with fail
  refine (draw_page C id _ HE4.out.codes).mono ?_
  rintro e w5 ⟨q, rfl, hq, hb5, hc5⟩
  have HE5 := Lib.hid (HE4.out.besides HT.out hb5 hc5)
  have HQ := Lib.hid hq
  clear hb5 hc5 hq
  have HZp := Lib.hid (size_pg p HP.out.len)
  have HOp := Lib.hid (oneCell_pg p)
  have HZq := Lib.hid (size_pg q HQ.out.len)
  have HOq := Lib.hid (oneCell_pg q)
  have HA1 := Lib.hid (two_first w5)
  have HA2 := Lib.hid (two_second' w5 p)
  have HI := Lib.hid (putPg2_at w5 p q)
  have HE6 := Lib.hid (HE5.out.calls (putPg2_below w5 p q))
  have d1 : (putPg2 w5 p q).cell? ⟨w5.heap.size, 1, none⟩ = some (.int .i64 p.lsn) := HI.out.1.lsn
  have d2 : (putPg2 w5 p q).cell? ⟨w5.heap.size + 1, 1, none⟩ = some (.int .i64 q.lsn) := HI.out.2.lsn
  have HPd : Hid (putPg2 w5 p q = (((w5.alloc (.cells (pgCells (newPg 0)).toArray 27)).alloc (.cells (pgCells (newPg 0)).toArray 27)).setRow w5.heap.size (pgCells p).toArray).setRow (w5.heap.size + 1) (pgCells q).toArray) := rfl
  rw [HPd.out] at d1 d2
  have HG1 : Hid (((((w5.alloc (.cells (pgCells (newPg 0)).toArray 27)).alloc (.cells (pgCells (newPg 0)).toArray 27)).setRow w5.heap.size (pgCells p).toArray).setRow (w5.heap.size + 1) (pgCells q).toArray).heap[w5.heap.size]? = some (.cells (pgCells p).toArray 27 (0, 0))) := HI.out.1
  by_cases hls : p.lsn = q.lsn
  · have hbl : (p.lsn == q.lsn) = true := by rw [hls]; simp
    clear hls
    go_wp2_with (first | ((with_reducible refine wpList_alloc_pg ?_); simp only [Act.put, List.setIfInBounds_toArray, List.set_cons_zero, List.set_cons_succ]) | ((with_reducible refine wpList_store_pg (.tmp 9) w5.heap.size p (newPg 0) ?_ ?_ ?_ ?_ ?_ ?_); (exact rfl); (exact rfl); (exact HA1.out); (exact HP.out.len); (exact rfl); skip) | ((with_reducible refine wpList_store_pg (.tmp 10) (w5.alloc (.cells (pgCells (newPg 0)).toArray 27)).heap.size q (newPg 0) ?_ ?_ ?_ ?_ ?_ ?_); (exact rfl); (exact rfl); (exact HA2.out); (exact HQ.out.len); (exact rfl); skip))
    go_ret
    exact ⟨rfl, HE6.out.old⟩
  · have hbl : (p.lsn == q.lsn) = false := by rw [beq_eq_false_iff_ne]; exact hls
    have HNE := Lib.hid hls
    clear hls
    go_wp2_with (first | ((with_reducible refine wpList_alloc_pg ?_); simp only [Act.put, List.setIfInBounds_toArray, List.set_cons_zero, List.set_cons_succ]) | ((with_reducible refine wpList_store_pg (.tmp 9) w5.heap.size p (newPg 0) ?_ ?_ ?_ ?_ ?_ ?_); (exact rfl); (exact rfl); (exact HA1.out); (exact HP.out.len); (exact rfl); skip) | ((with_reducible refine wpList_store_pg (.tmp 10) (w5.alloc (.cells (pgCells (newPg 0)).toArray 27)).heap.size q (newPg 0) ?_ ?_ ?_ ?_ ?_ ?_); (exact rfl); (exact rfl); (exact HA2.out); (exact HQ.out.len); (exact rfl); skip) | ((with_reducible refine wpList_load_pg (.tmp 9) w5.heap.size p ?_ ?_ ?_ ?_); (exact rfl); (exact HG1.out); (exact HP.out.len); simp only [Act.put, List.setIfInBounds_toArray, List.set_cons_zero, List.set_cons_succ]))
    have HW6 : Hid (PgIn (putPg2 w5 p q) (w5.heap.size + 1) q) := HI.out.2
    rw [← HPd.out]
    clear d1 d2 HA1 HA2 HG1 hbl HE2 HE3 HE4 HE5
    generalize putPg2 w5 p q = w6 at *
    refine (enc_ok (HP.out.check HId.out.1 HId.out.2) HP.out.len _ HE6.out.tab).mono ?_
    rintro e w7 ⟨rfl, hb7⟩
    have HE7 := Lib.hid (HE6.out.calls hb7)
    have HG7 : Hid (w7.heap[w5.heap.size + 1]? = some (.cells (pgCells q).toArray 27 (0, 0))) := HW6.out.calls hb7
    clear hb7 HE6 HW6 HI
    have HVp := Lib.hid (ver_enc (HP.out.check HId.out.1 HId.out.2) HP.out.len)
    have HVq := Lib.hid (ver_enc (HQ.out.check HId.out.1 HId.out.2) HQ.out.len)
    generalize ofL (encL p) = S at *
    go_wp2_with ((with_reducible refine wpList_load_pg (.tmp 10) (w5.heap.size + 1) q ?_ ?_ ?_ ?_); (exact rfl); (exact HG7.out); (exact HQ.out.len); simp only [Act.put, List.setIfInBounds_toArray, List.set_cons_zero, List.set_cons_succ])
    refine (enc_ok (HQ.out.check HId.out.1 HId.out.2) HQ.out.len _ HE7.out.tab).mono ?_
    rintro e w8 ⟨rfl, hb8⟩
    have HE8 := Lib.hid (HE7.out.calls hb8)
    have HG8 : Hid (PgIn w8 (w5.heap.size + 1) q) := PgIn.calls HG7.out hb8
    have d8 : w8.cell? ⟨w5.heap.size + 1, 1, none⟩ = some (.int .i64 q.lsn) := HG8.out.lsn
    clear hb8 HE7 HG7
    generalize ofL (encL q) = T at *
    generalize w5.heap.size + 1 = B2 at *
    cases bl
    · have HV : Hid (Ver S p.lsn ∧ 0 ≤ p.lsn ∧ p.lsn ≤ 1099511627776 ∧ p.lsn ≠ q.lsn) := ⟨HVp.out, HP.out.lsn0, HP.out.lsn1, HNE.out⟩
      generalize p.lsn = n at *
      have hSi : (S.size : Int) = 256 := by have := HV.out.1.size; omega
      have hTi : (T.size : Int) = 256 := by have := HVq.out.size; omega
      have hSn : S.size = 256 := HV.out.1.size
      have hTn : T.size = 256 := HVq.out.size
      have c0 := HCut.out.1
      have c1 := HCut.out.2
      obtain ⟨k, hk⟩ : ∃ k : Nat, cut % 257 = (k : Int) := ⟨(cut % 257).toNat, by omega⟩
      have hk256 : k ≤ 256 := by omega
      have hk256' : (k : Int) ≤ 256 := by omega
      have hkz : (0 : Int) ≤ (k : Int) := by omega
      have ha1 : ∀ W : World, Sem.run Tryd.prog (Op.stringOp .add (S.extract 0 k) (T.extract k 256)) W = .ok (.string (S.extract 0 k ++ T.extract k 256)) W := fun W => run_string_add_sum W _ _ (by rw [ByteArray.size_extract, ByteArray.size_extract]; omega)
      have ha2 : ∀ W : World, Sem.run Tryd.prog (Op.stringOp .add (T.extract 0 k) (S.extract k 256)) W = .ok (.string (T.extract 0 k ++ S.extract k 256)) W := fun W => run_string_add_sum W _ _ (by rw [ByteArray.size_extract, ByteArray.size_extract]; omega)
      have HX1 : Hid ((S.extract 0 k ++ T.extract k 256).size ≤ maxLen ∧ ((idR (S.extract 0 k ++ T.extract k 256) id).2 = 0 → ((S.extract 0 k ++ T.extract k 256) = S ∨ (S.extract 0 k ++ T.extract k 256) = T) ∧ (idR (S.extract 0 k ++ T.extract k 256) id).1.id = id)) :=
        ⟨by rw [ByteArray.size_append, ByteArray.size_extract, ByteArray.size_extract]; unfold maxLen; omega, fun h => tear HV.out.1 HVq.out HV.out.2.1 HV.out.2.2.1 HQ.out.lsn0 HQ.out.lsn1 HV.out.2.2.2 k hk256 id h⟩
      have HX2 : Hid ((T.extract 0 k ++ S.extract k 256).size ≤ maxLen ∧ ((idR (T.extract 0 k ++ S.extract k 256) id).2 = 0 → ((T.extract 0 k ++ S.extract k 256) = S ∨ (T.extract 0 k ++ S.extract k 256) = T) ∧ (idR (T.extract 0 k ++ S.extract k 256) id).1.id = id)) :=
        ⟨by rw [ByteArray.size_append, ByteArray.size_extract, ByteArray.size_extract]; unfold maxLen; omega, fun h => by
          obtain ⟨h1, h2⟩ := tear HVq.out HV.out.1 HQ.out.lsn0 HQ.out.lsn1 HV.out.2.1 HV.out.2.2.1 (fun e => HV.out.2.2.2 e.symm) k hk256 id h
          exact ⟨h1.symm, h2⟩⟩
      go_wp2_with fail
      go_region
      go_wp2_with fail
      have HEL := Lib.hid (HE8.out.calls (((Below.refl _ _).alloc (Nat.le_refl _) (.cells #[.string (S.extract 0 k ++ T.extract k 256), .string (T.extract 0 k ++ S.extract k 256)] 9)).drew))
      clear ha1 ha2
      generalize S.extract 0 k ++ T.extract k 256 = X1 at *
      generalize T.extract 0 k ++ S.extract k 256 = X2 at *
      have HL0 : Hid (LoopS (w8.heap.size) X1 X2 ((w8.alloc (.cells #[.string X1, .string X2] 9)).drew)) := heap_alloc_last w8 _
      rw [hk]
      clear hk c0 c1
      go_loopw [89] (fun i wr => ∃ j : Nat, j ≤ 2 ∧ i = .int .i64 j ∧ Env w C wr ∧ LoopS w8.heap.size X1 X2 wr) (fun i _ => 2 - (intOf i).toNat)
      case atStart => exact ⟨0, by omega, rfl, HEL.out, HL0.out⟩
      case round =>
        obtain ⟨j, hj, rfl, hen, hlo⟩ := hrel
        have HEn := Lib.hid hen
        have HLo := Lib.hid hlo
        clear hen hlo
        by_cases hlt : j < 2
        · obtain ⟨X, hX, hsz, hprop⟩ := LoopS.get HLo.out hlt (Q := fun X => X.size ≤ maxLen ∧ ((idR X id).2 = 0 → (X = S ∨ X = T) ∧ (idR X id).1.id = id)) HX1.out HX2.out
          have HPr := Lib.hid hprop
          have HSz := Lib.hid hsz
          clear hprop hsz
          go_wp2_with fail
          have HID : Hid (∀ W, TabAt W → Calls Tryd.prog 27 #[.string X, .int .i64 id] W fun e w' => e = .returned (.tuple #[.agg (pgCells (idR X id).1).toArray, .int .i64 (idR X id).2]) ∧ Below W.heap.size W w') := fun W hW => identify_any X id W HSz.out hW
          have hlen : (idR X id).1.cells.length = 16 := idR_len X id
          generalize idR X id = rn at *
          obtain ⟨r, n⟩ := rn
          simp only at hlen HID HPr
          refine (HID.out _ HEn.out.tab).mono ?_
          rintro e w10 ⟨rfl, hb10⟩
          have HE10 := Lib.hid (HEn.out.calls hb10)
          have HL10 : Hid (LoopS w8.heap.size X1 X2 w10) := (hb10.block _ (Array.getElem?_eq_some_iff.1 HLo.out).1).trans HLo.out
          have HGa : Hid (PgIn (w10.alloc (.cells (pgCells (newPg 0)).toArray 27)) w10.heap.size (newPg 0)) := heap_alloc_last w10 _
          have HEr := Lib.hid (HE10.out.calls (putPg_below w10 r))
          have HLr : Hid (LoopS w8.heap.size X1 X2 (putPg w10 r)) := ((putPg_below w10 r).block _ (Array.getElem?_eq_some_iff.1 HL10.out).1).trans HL10.out
          have d18 : (putPg w10 r).cell? ⟨w10.heap.size, 0, none⟩ = some (.int .i64 r.id) := (putPg_at w10 r).cell 0
          have HLn := Lib.hid hlen
          unfold putPg at d18 HEr HLr
          clear hb10 hlen HID
          by_cases hn : n = 0
          · have hb0 : (n == 0) = true := by rw [hn]; rfl
            have hri : (r.id != id) = false := by rw [(HPr.out hn).2]; simp
            by_cases hxs : X = S
            · have hbx : (X.toList == S.toList) = true := by rw [strBeq]; exact decide_eq_true hxs
              clear hxs hn
              go_wp2_with (first | ((with_reducible refine wpList_alloc_pg ?_); simp only [Act.put, List.setIfInBounds_toArray, List.set_cons_zero, List.set_cons_succ]) | ((with_reducible refine wpList_store_pg (.tmp 18) w10.heap.size r (newPg 0) ?_ ?_ ?_ ?_ ?_ ?_); (exact rfl); (exact rfl); (exact HGa.out); (exact HLn.out); (exact rfl); skip))
              go_roundw
              case rel => exact ⟨j + 1, by omega, by go_num, HEr.out, HLr.out⟩
              case measure => simp [intOf]; omega
            · have hbx : (X.toList == S.toList) = false := by rw [strBeq]; exact decide_eq_false hxs
              have hbt : (X.toList == T.toList) = true := by
                rw [strBeq]
                rcases (HPr.out hn).1 with h | h
                · exact absurd h hxs
                · exact decide_eq_true h
              clear hxs hn
              go_wp2_with (first | ((with_reducible refine wpList_alloc_pg ?_); simp only [Act.put, List.setIfInBounds_toArray, List.set_cons_zero, List.set_cons_succ]) | ((with_reducible refine wpList_store_pg (.tmp 18) w10.heap.size r (newPg 0) ?_ ?_ ?_ ?_ ?_ ?_); (exact rfl); (exact rfl); (exact HGa.out); (exact HLn.out); (exact rfl); skip))
              go_roundw
              case rel => exact ⟨j + 1, by omega, by go_num, HEr.out, HLr.out⟩
              case measure => simp [intOf]; omega
          · have hb0 : (n == 0) = false := by rw [beq_eq_false_iff_ne]; exact hn
            clear hn
            go_wp2_with (first | ((with_reducible refine wpList_alloc_pg ?_); simp only [Act.put, List.setIfInBounds_toArray, List.set_cons_zero, List.set_cons_succ]) | ((with_reducible refine wpList_store_pg (.tmp 18) w10.heap.size r (newPg 0) ?_ ?_ ?_ ?_ ?_ ?_); (exact rfl); (exact rfl); (exact HGa.out); (exact HLn.out); (exact rfl); skip))
            go_roundw
            case rel => exact ⟨j + 1, by omega, by go_num, HEr.out, HLr.out⟩
            case measure => simp [intOf]; omega
        · obtain rfl : j = 2 := by omega
          go_wp2_with fail
          go_ret
          exact ⟨rfl, HEn.out.old⟩
    · by_cases hq0 : 0 < q.lsn
      · go_wp2_with fail
        refine (blank_any _).mono ?_
        rintro e w9 ⟨rfl, hb9⟩
        have HE9 := Lib.hid (HE8.out.calls hb9)
        have HV : Hid (Ver (zeroS 256) 0 ∧ 0 ≤ (0 : Int) ∧ (0 : Int) ≤ 1099511627776 ∧ 0 ≠ q.lsn) := ⟨ver_blank, by omega, by omega, by omega⟩
        clear hb9 HE8 HVp HG8 d8
        generalize zeroS 256 = Z at *
        have hSi : (Z.size : Int) = 256 := by have := HV.out.1.size; omega
        have hTi : (T.size : Int) = 256 := by have := HVq.out.size; omega
        have hSn : Z.size = 256 := HV.out.1.size
        have hTn : T.size = 256 := HVq.out.size
        have c0 := HCut.out.1
        have c1 := HCut.out.2
        obtain ⟨k, hk⟩ : ∃ k : Nat, cut % 257 = (k : Int) := ⟨(cut % 257).toNat, by omega⟩
        have hk256 : k ≤ 256 := by omega
        have hk256' : (k : Int) ≤ 256 := by omega
        have hkz : (0 : Int) ≤ (k : Int) := by omega
        have ha1 : ∀ W : World, Sem.run Tryd.prog (Op.stringOp .add (Z.extract 0 k) (T.extract k 256)) W = .ok (.string (Z.extract 0 k ++ T.extract k 256)) W := fun W => run_string_add_sum W _ _ (by rw [ByteArray.size_extract, ByteArray.size_extract]; omega)
        have ha2 : ∀ W : World, Sem.run Tryd.prog (Op.stringOp .add (T.extract 0 k) (Z.extract k 256)) W = .ok (.string (T.extract 0 k ++ Z.extract k 256)) W := fun W => run_string_add_sum W _ _ (by rw [ByteArray.size_extract, ByteArray.size_extract]; omega)
        have HX1 : Hid ((Z.extract 0 k ++ T.extract k 256).size ≤ maxLen ∧ ((idR (Z.extract 0 k ++ T.extract k 256) id).2 = 0 → ((Z.extract 0 k ++ T.extract k 256) = Z ∨ (Z.extract 0 k ++ T.extract k 256) = T) ∧ (idR (Z.extract 0 k ++ T.extract k 256) id).1.id = id)) :=
          ⟨by rw [ByteArray.size_append, ByteArray.size_extract, ByteArray.size_extract]; unfold maxLen; omega, fun h => tear HV.out.1 HVq.out HV.out.2.1 HV.out.2.2.1 HQ.out.lsn0 HQ.out.lsn1 HV.out.2.2.2 k hk256 id h⟩
        have HX2 : Hid ((T.extract 0 k ++ Z.extract k 256).size ≤ maxLen ∧ ((idR (T.extract 0 k ++ Z.extract k 256) id).2 = 0 → ((T.extract 0 k ++ Z.extract k 256) = Z ∨ (T.extract 0 k ++ Z.extract k 256) = T) ∧ (idR (T.extract 0 k ++ Z.extract k 256) id).1.id = id)) :=
          ⟨by rw [ByteArray.size_append, ByteArray.size_extract, ByteArray.size_extract]; unfold maxLen; omega, fun h => by
            obtain ⟨h1, h2⟩ := tear HVq.out HV.out.1 HQ.out.lsn0 HQ.out.lsn1 HV.out.2.1 HV.out.2.2.1 (fun e => HV.out.2.2.2 e.symm) k hk256 id h
            exact ⟨h1.symm, h2⟩⟩
        go_wp2_with fail
        go_region
        go_wp2_with fail
        have HEL := Lib.hid (HE9.out.calls (((Below.refl _ _).alloc (Nat.le_refl _) (.cells #[.string (Z.extract 0 k ++ T.extract k 256), .string (T.extract 0 k ++ Z.extract k 256)] 9)).drew))
        clear ha1 ha2
        generalize Z.extract 0 k ++ T.extract k 256 = X1 at *
        generalize T.extract 0 k ++ Z.extract k 256 = X2 at *
        have HL0 : Hid (LoopS (w9.heap.size) X1 X2 ((w9.alloc (.cells #[.string X1, .string X2] 9)).drew)) := heap_alloc_last w9 _
        rw [hk]
        clear hk c0 c1
        go_loopw [89] (fun i wr => ∃ j : Nat, j ≤ 2 ∧ i = .int .i64 j ∧ Env w C wr ∧ LoopS w9.heap.size X1 X2 wr) (fun i _ => 2 - (intOf i).toNat)
        case atStart => exact ⟨0, by omega, rfl, HEL.out, HL0.out⟩
        case round =>
          obtain ⟨j, hj, rfl, hen, hlo⟩ := hrel
          have HEn := Lib.hid hen
          have HLo := Lib.hid hlo
          clear hen hlo
          by_cases hlt : j < 2
          · obtain ⟨X, hX, hsz, hprop⟩ := LoopS.get HLo.out hlt (Q := fun X => X.size ≤ maxLen ∧ ((idR X id).2 = 0 → (X = Z ∨ X = T) ∧ (idR X id).1.id = id)) HX1.out HX2.out
            have HPr := Lib.hid hprop
            have HSz := Lib.hid hsz
            clear hprop hsz
            go_wp2_with fail
            have HID : Hid (∀ W, TabAt W → Calls Tryd.prog 27 #[.string X, .int .i64 id] W fun e w' => e = .returned (.tuple #[.agg (pgCells (idR X id).1).toArray, .int .i64 (idR X id).2]) ∧ Below W.heap.size W w') := fun W hW => identify_any X id W HSz.out hW
            have hlen : (idR X id).1.cells.length = 16 := idR_len X id
            generalize idR X id = rn at *
            obtain ⟨r, n⟩ := rn
            simp only at hlen HID HPr
            refine (HID.out _ HEn.out.tab).mono ?_
            rintro e w10 ⟨rfl, hb10⟩
            have HE10 := Lib.hid (HEn.out.calls hb10)
            have HL10 : Hid (LoopS w9.heap.size X1 X2 w10) := (hb10.block _ (Array.getElem?_eq_some_iff.1 HLo.out).1).trans HLo.out
            have HGa : Hid (PgIn (w10.alloc (.cells (pgCells (newPg 0)).toArray 27)) w10.heap.size (newPg 0)) := heap_alloc_last w10 _
            have HEr := Lib.hid (HE10.out.calls (putPg_below w10 r))
            have HLr : Hid (LoopS w9.heap.size X1 X2 (putPg w10 r)) := ((putPg_below w10 r).block _ (Array.getElem?_eq_some_iff.1 HL10.out).1).trans HL10.out
            have d18 : (putPg w10 r).cell? ⟨w10.heap.size, 0, none⟩ = some (.int .i64 r.id) := (putPg_at w10 r).cell 0
            have HLn := Lib.hid hlen
            unfold putPg at d18 HEr HLr
            clear hb10 hlen HID
            by_cases hn : n = 0
            · have hb0 : (n == 0) = true := by rw [hn]; rfl
              have hri : (r.id != id) = false := by rw [(HPr.out hn).2]; simp
              by_cases hxs : X = Z
              · have hbx : (X.toList == Z.toList) = true := by rw [strBeq]; exact decide_eq_true hxs
                clear hxs hn
                go_wp2_with (first | ((with_reducible refine wpList_alloc_pg ?_); simp only [Act.put, List.setIfInBounds_toArray, List.set_cons_zero, List.set_cons_succ]) | ((with_reducible refine wpList_store_pg (.tmp 18) w10.heap.size r (newPg 0) ?_ ?_ ?_ ?_ ?_ ?_); (exact rfl); (exact rfl); (exact HGa.out); (exact HLn.out); (exact rfl); skip))
                go_roundw
                case rel => exact ⟨j + 1, by omega, by go_num, HEr.out, HLr.out⟩
                case measure => simp [intOf]; omega
              · have hbx : (X.toList == Z.toList) = false := by rw [strBeq]; exact decide_eq_false hxs
                have hbt : (X.toList == T.toList) = true := by
                  rw [strBeq]
                  rcases (HPr.out hn).1 with h | h
                  · exact absurd h hxs
                  · exact decide_eq_true h
                clear hxs hn
                go_wp2_with (first | ((with_reducible refine wpList_alloc_pg ?_); simp only [Act.put, List.setIfInBounds_toArray, List.set_cons_zero, List.set_cons_succ]) | ((with_reducible refine wpList_store_pg (.tmp 18) w10.heap.size r (newPg 0) ?_ ?_ ?_ ?_ ?_ ?_); (exact rfl); (exact rfl); (exact HGa.out); (exact HLn.out); (exact rfl); skip))
                go_roundw
                case rel => exact ⟨j + 1, by omega, by go_num, HEr.out, HLr.out⟩
                case measure => simp [intOf]; omega
            · have hb0 : (n == 0) = false := by rw [beq_eq_false_iff_ne]; exact hn
              clear hn
              go_wp2_with (first | ((with_reducible refine wpList_alloc_pg ?_); simp only [Act.put, List.setIfInBounds_toArray, List.set_cons_zero, List.set_cons_succ]) | ((with_reducible refine wpList_store_pg (.tmp 18) w10.heap.size r (newPg 0) ?_ ?_ ?_ ?_ ?_ ?_); (exact rfl); (exact rfl); (exact HGa.out); (exact HLn.out); (exact rfl); skip))
              go_roundw
              case rel => exact ⟨j + 1, by omega, by go_num, HEr.out, HLr.out⟩
              case measure => simp [intOf]; omega
          · obtain rfl : j = 2 := by omega
            go_wp2_with fail
            go_ret
            exact ⟨rfl, HEn.out.old⟩
      · have HV : Hid (Ver S p.lsn ∧ 0 ≤ p.lsn ∧ p.lsn ≤ 1099511627776 ∧ p.lsn ≠ q.lsn) := ⟨HVp.out, HP.out.lsn0, HP.out.lsn1, HNE.out⟩
        generalize p.lsn = n at *
        have hSi : (S.size : Int) = 256 := by have := HV.out.1.size; omega
        have hTi : (T.size : Int) = 256 := by have := HVq.out.size; omega
        have hSn : S.size = 256 := HV.out.1.size
        have hTn : T.size = 256 := HVq.out.size
        have c0 := HCut.out.1
        have c1 := HCut.out.2
        obtain ⟨k, hk⟩ : ∃ k : Nat, cut % 257 = (k : Int) := ⟨(cut % 257).toNat, by omega⟩
        have hk256 : k ≤ 256 := by omega
        have hk256' : (k : Int) ≤ 256 := by omega
        have hkz : (0 : Int) ≤ (k : Int) := by omega
        have ha1 : ∀ W : World, Sem.run Tryd.prog (Op.stringOp .add (S.extract 0 k) (T.extract k 256)) W = .ok (.string (S.extract 0 k ++ T.extract k 256)) W := fun W => run_string_add_sum W _ _ (by rw [ByteArray.size_extract, ByteArray.size_extract]; omega)
        have ha2 : ∀ W : World, Sem.run Tryd.prog (Op.stringOp .add (T.extract 0 k) (S.extract k 256)) W = .ok (.string (T.extract 0 k ++ S.extract k 256)) W := fun W => run_string_add_sum W _ _ (by rw [ByteArray.size_extract, ByteArray.size_extract]; omega)
        have HX1 : Hid ((S.extract 0 k ++ T.extract k 256).size ≤ maxLen ∧ ((idR (S.extract 0 k ++ T.extract k 256) id).2 = 0 → ((S.extract 0 k ++ T.extract k 256) = S ∨ (S.extract 0 k ++ T.extract k 256) = T) ∧ (idR (S.extract 0 k ++ T.extract k 256) id).1.id = id)) :=
          ⟨by rw [ByteArray.size_append, ByteArray.size_extract, ByteArray.size_extract]; unfold maxLen; omega, fun h => tear HV.out.1 HVq.out HV.out.2.1 HV.out.2.2.1 HQ.out.lsn0 HQ.out.lsn1 HV.out.2.2.2 k hk256 id h⟩
        have HX2 : Hid ((T.extract 0 k ++ S.extract k 256).size ≤ maxLen ∧ ((idR (T.extract 0 k ++ S.extract k 256) id).2 = 0 → ((T.extract 0 k ++ S.extract k 256) = S ∨ (T.extract 0 k ++ S.extract k 256) = T) ∧ (idR (T.extract 0 k ++ S.extract k 256) id).1.id = id)) :=
          ⟨by rw [ByteArray.size_append, ByteArray.size_extract, ByteArray.size_extract]; unfold maxLen; omega, fun h => by
            obtain ⟨h1, h2⟩ := tear HVq.out HV.out.1 HQ.out.lsn0 HQ.out.lsn1 HV.out.2.1 HV.out.2.2.1 (fun e => HV.out.2.2.2 e.symm) k hk256 id h
            exact ⟨h1.symm, h2⟩⟩
        go_wp2_with fail
        go_region
        go_wp2_with fail
        have HEL := Lib.hid (HE8.out.calls (((Below.refl _ _).alloc (Nat.le_refl _) (.cells #[.string (S.extract 0 k ++ T.extract k 256), .string (T.extract 0 k ++ S.extract k 256)] 9)).drew))
        clear ha1 ha2
        generalize S.extract 0 k ++ T.extract k 256 = X1 at *
        generalize T.extract 0 k ++ S.extract k 256 = X2 at *
        have HL0 : Hid (LoopS (w8.heap.size) X1 X2 ((w8.alloc (.cells #[.string X1, .string X2] 9)).drew)) := heap_alloc_last w8 _
        rw [hk]
        clear hk c0 c1
        go_loopw [89] (fun i wr => ∃ j : Nat, j ≤ 2 ∧ i = .int .i64 j ∧ Env w C wr ∧ LoopS w8.heap.size X1 X2 wr) (fun i _ => 2 - (intOf i).toNat)
        case atStart => exact ⟨0, by omega, rfl, HEL.out, HL0.out⟩
        case round =>
          obtain ⟨j, hj, rfl, hen, hlo⟩ := hrel
          have HEn := Lib.hid hen
          have HLo := Lib.hid hlo
          clear hen hlo
          by_cases hlt : j < 2
          · obtain ⟨X, hX, hsz, hprop⟩ := LoopS.get HLo.out hlt (Q := fun X => X.size ≤ maxLen ∧ ((idR X id).2 = 0 → (X = S ∨ X = T) ∧ (idR X id).1.id = id)) HX1.out HX2.out
            have HPr := Lib.hid hprop
            have HSz := Lib.hid hsz
            clear hprop hsz
            go_wp2_with fail
            have HID : Hid (∀ W, TabAt W → Calls Tryd.prog 27 #[.string X, .int .i64 id] W fun e w' => e = .returned (.tuple #[.agg (pgCells (idR X id).1).toArray, .int .i64 (idR X id).2]) ∧ Below W.heap.size W w') := fun W hW => identify_any X id W HSz.out hW
            have hlen : (idR X id).1.cells.length = 16 := idR_len X id
            generalize idR X id = rn at *
            obtain ⟨r, n⟩ := rn
            simp only at hlen HID HPr
            refine (HID.out _ HEn.out.tab).mono ?_
            rintro e w10 ⟨rfl, hb10⟩
            have HE10 := Lib.hid (HEn.out.calls hb10)
            have HL10 : Hid (LoopS w8.heap.size X1 X2 w10) := (hb10.block _ (Array.getElem?_eq_some_iff.1 HLo.out).1).trans HLo.out
            have HGa : Hid (PgIn (w10.alloc (.cells (pgCells (newPg 0)).toArray 27)) w10.heap.size (newPg 0)) := heap_alloc_last w10 _
            have HEr := Lib.hid (HE10.out.calls (putPg_below w10 r))
            have HLr : Hid (LoopS w8.heap.size X1 X2 (putPg w10 r)) := ((putPg_below w10 r).block _ (Array.getElem?_eq_some_iff.1 HL10.out).1).trans HL10.out
            have d18 : (putPg w10 r).cell? ⟨w10.heap.size, 0, none⟩ = some (.int .i64 r.id) := (putPg_at w10 r).cell 0
            have HLn := Lib.hid hlen
            unfold putPg at d18 HEr HLr
            clear hb10 hlen HID
            by_cases hn : n = 0
            · have hb0 : (n == 0) = true := by rw [hn]; rfl
              have hri : (r.id != id) = false := by rw [(HPr.out hn).2]; simp
              by_cases hxs : X = S
              · have hbx : (X.toList == S.toList) = true := by rw [strBeq]; exact decide_eq_true hxs
                clear hxs hn
                go_wp2_with (first | ((with_reducible refine wpList_alloc_pg ?_); simp only [Act.put, List.setIfInBounds_toArray, List.set_cons_zero, List.set_cons_succ]) | ((with_reducible refine wpList_store_pg (.tmp 18) w10.heap.size r (newPg 0) ?_ ?_ ?_ ?_ ?_ ?_); (exact rfl); (exact rfl); (exact HGa.out); (exact HLn.out); (exact rfl); skip))
                go_roundw
                case rel => exact ⟨j + 1, by omega, by go_num, HEr.out, HLr.out⟩
                case measure => simp [intOf]; omega
              · have hbx : (X.toList == S.toList) = false := by rw [strBeq]; exact decide_eq_false hxs
                have hbt : (X.toList == T.toList) = true := by
                  rw [strBeq]
                  rcases (HPr.out hn).1 with h | h
                  · exact absurd h hxs
                  · exact decide_eq_true h
                clear hxs hn
                go_wp2_with (first | ((with_reducible refine wpList_alloc_pg ?_); simp only [Act.put, List.setIfInBounds_toArray, List.set_cons_zero, List.set_cons_succ]) | ((with_reducible refine wpList_store_pg (.tmp 18) w10.heap.size r (newPg 0) ?_ ?_ ?_ ?_ ?_ ?_); (exact rfl); (exact rfl); (exact HGa.out); (exact HLn.out); (exact rfl); skip))
                go_roundw
                case rel => exact ⟨j + 1, by omega, by go_num, HEr.out, HLr.out⟩
                case measure => simp [intOf]; omega
            · have hb0 : (n == 0) = false := by rw [beq_eq_false_iff_ne]; exact hn
              clear hn
              go_wp2_with (first | ((with_reducible refine wpList_alloc_pg ?_); simp only [Act.put, List.setIfInBounds_toArray, List.set_cons_zero, List.set_cons_succ]) | ((with_reducible refine wpList_store_pg (.tmp 18) w10.heap.size r (newPg 0) ?_ ?_ ?_ ?_ ?_ ?_); (exact rfl); (exact rfl); (exact HGa.out); (exact HLn.out); (exact rfl); skip))
              go_roundw
              case rel => exact ⟨j + 1, by omega, by go_num, HEr.out, HLr.out⟩
              case measure => simp [intOf]; omega
          · obtain rfl : j = 2 := by omega
            go_wp2_with fail
            go_ret
            exact ⟨rfl, HEn.out.old⟩
end Go.Proofs.YtoceglomogcgcaaDoor
