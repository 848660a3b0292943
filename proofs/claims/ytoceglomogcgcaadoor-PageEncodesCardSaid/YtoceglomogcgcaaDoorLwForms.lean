/- the law PageForms -/
import Derived.Test.YtoceglomogcgcaaDoorLwInj
import Derived.Test.YtoceglomogcgcaaDoorLwSealed
import Derived.Test.YtoceglomogcgcaaDoorRfDec2
namespace Go.Proofs.YtoceglomogcgcaaDoor
open Go.RowKit

theorem decR_good (s : ByteArray) : Good (decR s).1 := by
  rcases decR_cases s with ⟨n, _, h⟩ | ⟨h, _⟩
  · rw [h]
    exact good_of rfl (fun c hc => by
      have : c = emptyCl := List.eq_of_mem_replicate hc
      subst this
      decide) ⟨by show _ ≤ (0 : Int); omega, by show (0 : Int) ≤ _; omega⟩ ⟨by show _ ≤ (0 : Int); omega, by show (0 : Int) ≤ _; omega⟩
  · rw [h]
    refine good_of (by simp [parseR]) (fun c hc => ?_) ?_ ?_
    · simp only [parseR, List.mem_map] at hc
      obtain ⟨j, _, rfl⟩ := hc
      have := clAt_small s (12 + j * 13)
      omega
    · show _ ≤ wrap64 _ ∧ wrap64 _ ≤ _
      unfold wrap64; omega
    · show _ ≤ wrap64 _ ∧ wrap64 _ ≤ _
      unfold wrap64; omega
theorem decR_back {s : ByteArray} (h : (decR s).2 = 0) : encR (decR s).1 = (s, 0) := by
  rcases decR_cases s with ⟨n, hn, hd⟩ | ⟨hd, _, _, he⟩
  · rw [hd] at h; exact absurd h hn
  · rw [hd]; exact he
theorem samePg_self (p : Pg) : samePg p p = true := samePg_iff.2 rfl
theorem decode_page (s : ByteArray) (w : World) (hs : s.size ≤ maxLen) (ht : TabAt w) :
    Calls Tryd.prog 25 #[.string s] w fun e w' => e = .returned (.tuple #[.agg (pgCells (decR s).1).toArray, .int .i64 (decR s).2]) ∧ Below w.heap.size w w' := decode_any s w hs ht
theorem rdecode_page (s : ByteArray) (w : World) (hs : s.size ≤ maxLen) :
    Calls Tryd.prog 26 #[.string s] w fun e w' => e = .returned (.tuple #[.agg (pgCells (decR s).1).toArray, .int .i64 (decR s).2]) ∧ Below w.heap.size w w' := rdecode_any s w hs
theorem rencode_page {p : Pg} (hp : Good p) (w : World) :
    Calls Tryd.prog 16 #[.agg (pgCells p).toArray] w fun e w' => e = .returned (.tuple #[.string (encR p).1, .int .i64 (encR p).2]) ∧ Below w.heap.size w w' := rencode p w hp.len hp.data
set_option maxHeartbeats 8000000 in
set_option maxRecDepth 20000 in
theorem forms_any (x : Option Addr) (len cap : Nat) (zs : List Int) (w : World) (hr : IsRow .u8 w x len cap zs) (ht : TabAt w) :
    Calls Tryd.prog 5 #[.slice x len cap] w fun e w' => e = .returned (.bool true) ∧ Below w.heap.size w w' := by
  have HT := Lib.hid ht
  have HR := Lib.hid hr
  clear ht hr
  go_enter Tryd.func5, Tryd.ntmps5
  go_wp2_with fail
  refine (awake_page _ HT.out).mono ?_
  rintro e w1 ⟨rfl, hb⟩
  have HR1 := Lib.hid (row_below HR.out hb)
  go_wp2_with fail
  refine (new_to 160 (by omega) _ _ _ zs _ HR1.out).mono ?_
  rintro e w2 ⟨rfl, hb2, hc2⟩
  have HE2 := Lib.hid (start_env hb hb2 hc2 HT.out)
  clear hb hb2 hc2 HR HR1
  generalize w1.heap.size = C at *
  go_wp2_with fail
  refine (next_any C 5 _ HE2.out.codes (by omega)).mono ?_
  rintro e w3 ⟨id, rfl, id0, id1, hb3, hc3⟩
  have HE3 := Lib.hid (HE2.out.besides HT.out hb3 hc3)
  have HId : Hid (0 ≤ id ∧ id < 64) := ⟨id0, by omega⟩
  clear hb3 hc3 id0 id1
  go_wp2_with fail
  refine (draw_page C id _ HE3.out.codes).mono ?_
  rintro e w4 ⟨p, rfl, hp, hb4, hc4⟩
  have HE4 := Lib.hid (HE3.out.besides HT.out hb4 hc4)
  have HP := Lib.hid hp
  clear hb4 hc4 hp
  go_wp2_with fail
  have HEn : Hid (∀ W : World, Calls Tryd.prog 16 #[.agg (pgCells p).toArray] W fun e w' => e = .returned (.tuple #[.string (ofL (encL p)), .int .i64 0]) ∧ Below W.heap.size W w') := fun W => by
    have := rencode_page (HP.out.good HId.out.1 HId.out.2) W
    rw [show encR p = (ofL (encL p), 0) from by unfold encR; rw [if_pos (HP.out.check HId.out.1 HId.out.2)]] at this
    exact this
  refine (HEn.out _).mono ?_
  rintro e w5 ⟨rfl, hb5⟩
  have HE5 := Lib.hid (HE4.out.calls hb5)
  have HSz := Lib.hid (enc_size (HP.out.check HId.out.1 HId.out.2) HP.out.len)
  clear hb5 HEn HE2 HE3 HE4
  generalize ofL (encL p) = S at *
  go_wp2_with fail
  go_loopw [6] (fun i wr => ∃ j : Nat, j ≤ 4 ∧ i = .int .i64 j ∧ Env w C wr) (fun i _ => 4 - (intOf i).toNat)
  case atStart => exact ⟨0, by omega, rfl, HE5.out⟩
  case round =>
    obtain ⟨j, hj, rfl, hen⟩ := hrel
    have HEr := Lib.hid hen
    clear hen
    by_cases hlt : j < 4
    · go_wp2_with fail
      refine (sealed_any C S _ HEr.out.codes HSz.out).mono ?_
      rintro e w6 ⟨X, rfl, hX, hb6, hc6⟩
      have HE6 := Lib.hid (HEr.out.besides HT.out hb6 hc6)
      have HXm : Hid (X.size ≤ maxLen) := by show _ ≤ _; rw [hX]; unfold maxLen; omega
      clear hb6 hc6 hX
      have HDc : Hid (∀ W, TabAt W → Calls Tryd.prog 25 #[.string X] W fun e w' => e = .returned (.tuple #[.agg (pgCells (decR X).1).toArray, .int .i64 (decR X).2]) ∧ Below W.heap.size W w') := fun W hW => decode_page X W HXm.out hW
      have HRc : Hid (∀ W, Calls Tryd.prog 26 #[.string X] W fun e w' => e = .returned (.tuple #[.agg (pgCells (decR X).1).toArray, .int .i64 (decR X).2]) ∧ Below W.heap.size W w') := fun W => rdecode_page X W HXm.out
      have HGd := Lib.hid (decR_good X)
      have HBk : Hid ((decR X).2 = 0 → encR (decR X).1 = (X, 0)) := decR_back
      generalize decR X = rn at *
      obtain ⟨r, n⟩ := rn
      simp only at HDc HRc HGd HBk
      have HRl := Lib.hid HGd.out.len
      go_wp2_with fail
      refine (HDc.out _ HE6.out.tab).mono ?_
      rintro e w7 ⟨rfl, hb7⟩
      have HE7 := Lib.hid (HE6.out.calls hb7)
      have HGa : Hid (PgIn (w7.alloc (.cells (pgCells (newPg 0)).toArray 27)) w7.heap.size (newPg 0)) := heap_alloc_last w7 _
      have HE8 := Lib.hid (HE7.out.calls (putPg_below w7 r))
      have HA8 := Lib.hid (putPg_at w7 r)
      have HDf : Hid (putPg w7 r = (w7.alloc (.cells (pgCells (newPg 0)).toArray 27)).setRow w7.heap.size (pgCells r).toArray) := rfl
      clear hb7 HE6
      go_wp2_with (first | ((with_reducible refine wpList_alloc_pg ?_); simp only [Act.put, List.setIfInBounds_toArray, List.set_cons_zero, List.set_cons_succ]) | ((with_reducible refine wpList_store_pg (.tmp 8) w7.heap.size r (newPg 0) ?_ ?_ ?_ ?_ ?_ ?_); (exact rfl); (exact rfl); (exact HGa.out); (exact HRl.out); (exact rfl); skip))
      rw [← HDf.out]
      clear HGa HE7
      generalize putPg w7 r = w8 at *
      generalize w7.heap.size = B8 at *
      refine (HRc.out _).mono ?_
      rintro e w9 ⟨rfl, hb9⟩
      have HE9 := Lib.hid (HE8.out.calls hb9)
      have HA9 := Lib.hid (HA8.out.calls hb9)
      have HGb : Hid (PgIn (w9.alloc (.cells (pgCells (newPg 0)).toArray 27)) w9.heap.size (newPg 0)) := heap_alloc_last w9 _
      have HE10 := Lib.hid (HE9.out.calls (putPg_below w9 r))
      have HA10 := Lib.hid (HA9.out.calls (putPg_below w9 r))
      have HC10 := Lib.hid (putPg_at w9 r)
      have HDg : Hid (putPg w9 r = (w9.alloc (.cells (pgCells (newPg 0)).toArray 27)).setRow w9.heap.size (pgCells r).toArray) := rfl
      clear hb9 HE8 HA8
      have hne : ∀ W, Sem.run Tryd.prog (binOp .neq 27 (.agg (pgCells r).toArray) (.agg (pgCells r).toArray)) W = .ok (.bool false) W := fun W => by
        have := run_page_neq r r HGd.out HGd.out W
        rw [samePg_self] at this
        exact this
      have HA10' := HA10
      have HC10' := HC10
      rw [HDg.out] at HA10' HC10'
      go_wp2_with (first | ((with_reducible refine wpList_alloc_pg ?_); simp only [Act.put, List.setIfInBounds_toArray, List.set_cons_zero, List.set_cons_succ]) | ((with_reducible refine wpList_store_pg (.tmp 10) w9.heap.size r (newPg 0) ?_ ?_ ?_ ?_ ?_ ?_); (exact rfl); (exact rfl); (exact HGb.out); (exact HRl.out); (exact rfl); skip) | ((with_reducible refine wpList_load_pg (.tmp 8) B8 r ?_ ?_ ?_ ?_); (exact rfl); (exact HA10'.out); (exact HRl.out); simp only [Act.put, List.setIfInBounds_toArray, List.set_cons_zero, List.set_cons_succ]) | ((with_reducible refine wpList_load_pg (.tmp 10) w9.heap.size r ?_ ?_ ?_ ?_); (exact rfl); (exact HC10'.out); (exact HRl.out); simp only [Act.put, List.setIfInBounds_toArray, List.set_cons_zero, List.set_cons_succ]))
      rw [← HDg.out]
      clear HGb HE9 HA9 HA10' HC10' hne
      generalize putPg w9 r = w10 at *
      refine (enc_any HGd.out _ HE10.out.tab).mono ?_
      rintro e w11 ⟨rfl, hb11⟩
      have HE11 := Lib.hid (HE10.out.calls hb11)
      clear hb11
      by_cases hn : n = 0
      · have hE := HBk.out hn
        rw [hE]
        have hb0 : (n == 0) = true := by rw [hn]; rfl
        clear hn hE
        go_wp2_with fail
        go_roundw
        case rel => exact ⟨j + 1, by omega, by go_num, HE11.out⟩
        case measure => simp [intOf]; omega
      · have hb0 : (n == 0) = false := by rw [beq_eq_false_iff_ne]; exact hn
        clear hn
        go_wp2_with fail
        go_roundw
        case rel => exact ⟨j + 1, by omega, by go_num, HE11.out⟩
        case measure => simp [intOf]; omega
    · obtain rfl : j = 4 := by omega
      go_wp2_with fail
      go_ret
      exact ⟨rfl, HEr.out.old⟩
end Go.Proofs.YtoceglomogcgcaaDoor
