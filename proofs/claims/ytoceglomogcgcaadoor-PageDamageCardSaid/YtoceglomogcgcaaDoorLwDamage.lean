/- the law PageDamage -/
import Derived.Test.YtoceglomogcgcaaDoorLwTears
import Derived.Test.YtoceglomogcgcaaDoorPgDmg
namespace Go.Proofs.YtoceglomogcgcaaDoor
open Go.RowKit

theorem xor_u8 (a b : UInt8) : bits .xor .u8 (a.toNat : Int) (b.toNat : Int) = ((a ^^^ b).toNat : Int) := by
  rw [u8_xor_nat _ _ a.toNat_lt b.toNat_lt, UInt8.toNat_xor]
theorem xor_ne (a b : UInt8) (hb : b ≠ 0) : a ^^^ b ≠ a := by
  intro h
  apply hb
  have : a ^^^ (a ^^^ b) = a ^^^ a := by rw [h]
  rw [← UInt8.xor_assoc, UInt8.xor_self, UInt8.zero_xor] at this
  exact this
theorem page_second (W : World) (o : Obj) : ((W.alloc o).alloc (.cells (pgCells (newPg 0)).toArray 27)).heap[W.heap.size + 1]? = some (.cells (pgCells (newPg 0)).toArray 27 (0, 0)) := by
  have := heap_alloc_last (W.alloc o) (.cells (pgCells (newPg 0)).toArray 27)
  rw [World.size_alloc] at this
  exact this
set_option maxHeartbeats 8000000 in
set_option maxRecDepth 20000 in
theorem damage_any (x : Option Addr) (len cap : Nat) (zs : List Int) (at_ : Int) (b : UInt8) (w : World) (hr : IsRow .u8 w x len cap zs) (ht : TabAt w) (c0 : 0 ≤ at_) (c1 : at_ ≤ 255) :
    Calls Tryd.prog 7 #[.slice x len cap, .int .u8 at_, .int .u8 (b.toNat : Int)] w fun e w' => e = .returned (.bool true) ∧ Below w.heap.size w w' := by
  have HT := Lib.hid ht
  have HR := Lib.hid hr
  obtain ⟨k, rfl⟩ := Int.eq_ofNat_of_zero_le c0
  have hk : k < 256 := by omega
  clear ht hr c0 c1
  by_cases hb0 : b = 0
  · subst hb0
    have d2 : (((0 : UInt8).toNat : Int) == 0) = true := by decide
    go_enter Tryd.func7, Tryd.ntmps7
    go_wp2_with (go_at_call 10; refine (awake_page _ HT.out).mono ?_; rintro e w1 ⟨rfl, hb⟩)
    go_ret
    exact ⟨rfl, by assumption⟩
  have d2 : ((b.toNat : Int) == 0) = false := by
    rw [beq_eq_false_iff_ne]
    intro h
    apply hb0
    apply UInt8.toNat_inj.1
    simpa using h
  have HB0 := Lib.hid hb0
  clear hb0
  go_enter Tryd.func7, Tryd.ntmps7
  go_wp2_with fail
  refine (awake_page _ HT.out).mono ?_
  rintro e w1 ⟨rfl, hb⟩
  have HR1 := Lib.hid (row_below HR.out hb)
  go_wp2_with fail
  refine (new_to 100 (by omega) _ _ _ zs _ HR1.out).mono ?_
  rintro e w2 ⟨rfl, hb2, hc2⟩
  have HE2 := Lib.hid (start_env hb hb2 hc2 HT.out)
  clear hb hb2 hc2 HR HR1
  generalize w1.heap.size = C at *
  go_wp2_with fail
  refine (next_any C 64 _ HE2.out.codes (by omega)).mono ?_
  rintro e w3 ⟨id, rfl, id0, id1, hb3, hc3⟩
  have HE3 := Lib.hid (HE2.out.besides HT.out hb3 hc3)
  have HId : Hid (0 ≤ id ∧ id < 64) := ⟨id0, by omega⟩
  clear hb3 hc3 id0 id1
  go_wp2_with fail
  refine (draw_page C id _ HE3.out.codes).mono ?_
  rintro e w4 ⟨p, rfl, hp, hb4, hc4⟩
  have HE4 := Lib.hid (HE3.out.besides HT.out hb4 hc4)
  have HP := Lib.hid hp
  clear hb4 hc4 hp
  go_wp2_with fail
  refine (enc_ok (HP.out.check HId.out.1 HId.out.2) HP.out.len _ HE4.out.tab).mono ?_
  rintro e w5 ⟨rfl, hb5⟩
  have HE5 := Lib.hid (HE4.out.calls hb5)
  clear hb5
  go_wp2_with fail
  refine (blank_any _).mono ?_
  rintro e w6 ⟨rfl, hb6⟩
  have HE6 := Lib.hid (HE5.out.calls hb6)
  clear hb6 HE2 HE3 HE4 HE5
  have HX1 : Hid ((ofL (encL p)).size = 256 ∧ ∀ (y : ByteArray) (c : UInt8), c ≠ (ofL (encL p)).data.toList.getD k 0 → y.data.toList = (ofL (encL p)).data.toList.set k c → (decR y).2 ≠ 0 ∧ (decR y).2 ≠ 7) :=
    ⟨enc_size (HP.out.check HId.out.1 HId.out.2) HP.out.len, fun y c hc hy => damaged (HP.out.check HId.out.1 HId.out.2) HP.out.len hk (by rw [ofL_list] at hc; exact hc) (by rw [ofL_list] at hy; exact hy)⟩
  have HX2 : Hid ((zeroS 256).size = 256 ∧ ∀ (y : ByteArray) (c : UInt8), c ≠ (zeroS 256).data.toList.getD k 0 → y.data.toList = (zeroS 256).data.toList.set k c → (decR y).2 ≠ 0 ∧ (decR y).2 ≠ 7) :=
    ⟨zeroS_size 256, fun y c hc hy => damaged_blank hk (by rw [zeroS_get] at hc; exact hc) hy⟩
  generalize ofL (encL p) = X1 at *
  generalize zeroS 256 = X2 at *
  go_wp2_with fail
  have HEL := Lib.hid (HE6.out.calls (((Below.refl _ _).alloc (Nat.le_refl _) (.cells #[.string X1, .string X2] 9))))
  have HL0 : Hid (LoopS (w6.heap.size) X1 X2 (w6.alloc (.cells #[.string X1, .string X2] 9))) := heap_alloc_last w6 _
  go_loopw [37] (fun i wr => ∃ j : Nat, j ≤ 2 ∧ i = .int .i64 j ∧ Env w C wr ∧ LoopS w6.heap.size X1 X2 wr) (fun i _ => 2 - (intOf i).toNat)
  case atStart => exact ⟨0, by omega, rfl, HEL.out, HL0.out⟩
  case round =>
    obtain ⟨j, hj, rfl, hen, hlo⟩ := hrel
    have HEn := Lib.hid hen
    have HLo := Lib.hid hlo
    clear hen hlo
    by_cases hlt : j < 2
    · obtain ⟨X, hX, hsz, hprop⟩ := LoopS.get HLo.out hlt (Q := fun X => X.size = 256 ∧ ∀ (y : ByteArray) (c : UInt8), c ≠ X.data.toList.getD k 0 → y.data.toList = X.data.toList.set k c → (decR y).2 ≠ 0 ∧ (decR y).2 ≠ 7) HX1.out HX2.out
      have HPr := Lib.hid hprop
      have HSz := Lib.hid hsz
      have hXi : (X.size : Int) = 256 := by omega
      clear hprop
      have hkX : k < X.size := by omega
      have hkz : (k : Int) < 256 := by omega
      have hkl : (k : Int) ≤ 256 := by omega
      have hk1 : (k : Int) + 1 ≤ 256 := by omega
      have hkw : IntKind.i64.wrap ((k : Int) + 1) = (k : Int) + 1 := IntWalk.i64_in _ (by omega)
      have hka : (0 : Int) ≤ (k : Int) := by omega
      have hkb : (k : Int) ≤ (X.size : Int) := by omega
      have hkc : (k : Int) < (X.size : Int) := by omega
      have hkd : (0 : Int) ≤ (k : Int) + 1 := by omega
      have hke : (k : Int) + 1 ≤ (X.size : Int) := by omega
      have hks : ((k : Int) + 1).toNat = k + 1 := by omega
      have HXk := Lib.hid (getD_at X k hkX)
      have HNe : Hid (X[k] ^^^ b ≠ X.data.toList.getD k 0) := by show _ ≠ _; rw [HXk.out]; exact xor_ne _ _ HB0.out
      have HY : Hid ((X.extract 0 k ++ ⟨#[X[k] ^^^ b]⟩ ++ X.extract (k + 1) 256).data.toList = X.data.toList.set k (X[k] ^^^ b)) := by
        show _ = _
        have hlen := size_list X
        rw [str_app, str_app, ext_list, ext_list, List.drop_zero, Nat.sub_zero, List.take_of_length_le (l := X.data.toList.drop (k + 1)) (by rw [List.length_drop, hlen, HSz.out]; omega)]
        rw [List.set_eq_take_append_cons_drop, if_pos (by omega), List.append_assoc]
        rfl
      have HD := Lib.hid (HPr.out _ _ HNe.out HY.out)
      have HYs : Hid ((X.extract 0 k ++ ⟨#[X[k] ^^^ b]⟩ ++ X.extract (k + 1) 256).size ≤ maxLen) := by
        show _ ≤ _
        rw [ByteArray.size_append, ByteArray.size_append, ByteArray.size_extract, ByteArray.size_extract]; unfold maxLen; show _ + 1 + _ ≤ _; omega
      have hxor := xor_u8 X[k] b
      generalize hXX : X[k] ^^^ b = V at *
      have hcv : ∀ (W : World) (g : Nat), W.cell? ⟨g, 0, none⟩ = some (.int .u8 (V.toNat : Int)) → Sem.run Tryd.prog (convert 22 9 (.slice (some ⟨g, 0, none⟩) 1 1)) W = .ok (.string ⟨#[V]⟩) W := fun W g hW =>
        run_convert_bytes_back (P := Tryd.prog) W 22 9 5 ⟨g, 0, none⟩ 1 [V] Tryd.underlying22 Tryd.underlying5 Tryd.underlying9 (fun j hj => by
          have : j = 0 := by simpa using hj
          subst this
          exact hW)
      have ha1 : ∀ W : World, Sem.run Tryd.prog (Op.stringOp .add (X.extract 0 k) ⟨#[V]⟩) W = .ok (.string (X.extract 0 k ++ ⟨#[V]⟩)) W := fun W => run_string_add_sum W _ _ (by rw [ByteArray.size_extract]; show _ + 1 ≤ _; omega)
      have ha2 : ∀ W : World, Sem.run Tryd.prog (Op.stringOp .add (X.extract 0 k ++ ⟨#[V]⟩) (X.extract (k + 1) 256)) W = .ok (.string (X.extract 0 k ++ ⟨#[V]⟩ ++ X.extract (k + 1) 256)) W := fun W => run_string_add_sum W _ _ (by rw [ByteArray.size_append, ByteArray.size_extract, ByteArray.size_extract]; show _ + 1 + _ ≤ _; omega)
      have hlen := decR_len (X.extract 0 k ++ ⟨#[V]⟩ ++ X.extract (k + 1) 256)
      have HDc : Hid (∀ W, TabAt W → Calls Tryd.prog 25 #[.string (X.extract 0 k ++ ⟨#[V]⟩ ++ X.extract (k + 1) 256)] W fun e w' => e = .returned (.tuple #[.agg (pgCells (decR (X.extract 0 k ++ ⟨#[V]⟩ ++ X.extract (k + 1) 256)).1).toArray, .int .i64 (decR (X.extract 0 k ++ ⟨#[V]⟩ ++ X.extract (k + 1) 256)).2]) ∧ Below W.heap.size W w') := fun W hW => decode_any _ W HYs.out hW
      generalize decR (X.extract 0 k ++ ⟨#[V]⟩ ++ X.extract (k + 1) 256) = rn at *
      obtain ⟨r, n⟩ := rn
      simp only at hlen HD HDc
      have HLr := Lib.hid hlen
      have hpl : (pgCells r).length = 34 := by rw [pgCells_length, hlen]
      clear hlen
      go_wp2_with fail
      have hb0 : (n == 0) = false := by rw [beq_eq_false_iff_ne]; exact HD.out.1
      have hb7 : (n == 7) = false := by rw [beq_eq_false_iff_ne]; exact HD.out.2
      have HFin : Hid (∀ Wf, Below wr.heap.size wr Wf → Env w C Wf ∧ LoopS w6.heap.size X1 X2 Wf) := fun Wf hb => ⟨HEn.out.calls hb, (hb.block _ (Array.getElem?_eq_some_iff.1 HLo.out).1).trans HLo.out⟩
      go_region_with (go_at_call 25; refine (HDc.out _ ?_).mono ?_; (refine HEn.out.tab.below ?_; first | exact (Below.refl _ _).drew.alloc (Nat.le_refl _) _ | exact (((Below.refl _ _).alloc (Nat.le_refl _) _).alloc (by simp) _).drew | exact ((Below.refl _ _).alloc (Nat.le_refl _) _).drew); rintro e w9 ⟨rfl, hb9⟩; have hst := page_store w9 r HLr.out; have HB9 : Hid (Below wr.heap.size wr w9) := (by first | exact (((Below.refl _ _).alloc (Nat.le_refl _) _).alloc (by simp) _).drew.trans (hb9.mono (by first | (simp; done) | (simp; omega))) | exact ((Below.refl _ _).alloc (Nat.le_refl _) _).drew.trans (hb9.mono (by first | (simp; done) | (simp; omega)))); (first | have hst1 := page_store_at w9 wr.heap.size r HLr.out ((hb9.block _ (by first | (simp; done) | (simp; omega))).trans ((Below.heap_alloc _ _ _ (by simp)).trans (heap_alloc_last wr _))) | skip); (first | have hst2 := page_store_at w9 (wr.heap.size + 1) r HLr.out ((hb9.block _ (by first | (simp; done) | (simp; omega))).trans (page_second wr _)) | skip); clear hb9)
      all_goals go_wp2_with fail
      all_goals go_roundw
      all_goals first
        | exact ⟨j + 1, by omega, by go_num, (HFin.out _ (by first | exact HB9.out.alloc HB9.out.size _ | exact below_setRow HB9.out (Nat.le_refl _) _ | exact below_setRow HB9.out (by omega) _)).1, (HFin.out _ (by first | exact HB9.out.alloc HB9.out.size _ | exact below_setRow HB9.out (Nat.le_refl _) _ | exact below_setRow HB9.out (by omega) _)).2⟩
        | (simp [intOf]; omega)
    · obtain rfl : j = 2 := by omega
      go_wp2_with fail
      go_ret
      exact ⟨rfl, HEn.out.old⟩
end Go.Proofs.YtoceglomogcgcaaDoor
