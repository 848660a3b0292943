/- the law CodecFrames: what the program answers for frames and checksums is what the reference answers, for every text and every place -/
import Derived.Test.YtccepdbglgpniaaDoorCdFrm
import Derived.Test.YtccepdbglgpniaaDoorDrNew
import Derived.Deep.OwnRows
import Derived.Deep.RegionWith
namespace Go.Proofs.YtccepdbglgpniaaDoor
open Go.RowKit

attribute [local irreducible] unfR frameR

/-- a text of four bytes, two of them drawn -/
theorem conv4_ex (w : World) (a b : Int) (a0 : 0 ≤ a) (a1 : a ≤ 255) (b0 : 0 ≤ b) (b1 : b ≤ 255) : ∃ (u v : UInt8), Sem.run Tryd.prog (convert 31 9 (.slice (some ⟨w.heap.size, 0, none⟩) 4 4)) (w.alloc (.cells #[.int .u8 a, .int .u8 b, .int .u8 0, .int .u8 0] 5)) = .ok (.string ⟨#[u, v, 0, 0]⟩) (w.alloc (.cells #[.int .u8 a, .int .u8 b, .int .u8 0, .int .u8 0] 5)) := by
  refine ⟨UInt8.ofNat a.toNat, UInt8.ofNat b.toNat, ?_⟩
  refine run_convert_bytes_back (P := Tryd.prog) (w.alloc (.cells #[.int .u8 a, .int .u8 b, .int .u8 0, .int .u8 0] 5)) 31 9 5 ⟨w.heap.size, 0, none⟩ 4 [UInt8.ofNat a.toNat, UInt8.ofNat b.toNat, 0, 0] Tryd.underlying31 Tryd.underlying5 Tryd.underlying9 (fun j hj => ?_)
  have ea : (⟨w.heap.size, 0, none⟩ : Addr).add j = ⟨w.heap.size, j, none⟩ := by
    simp only [Addr.add]; split
    · next h => rw [h]
    · simp
  rw [ea, World.cell?_alloc_new]
  match j, hj with
  | 0, _ => show some (Value.int .u8 a) = some (Value.int .u8 (((UInt8.ofNat a.toNat).toNat : Nat) : Int)); rw [UInt8.toNat_ofNat', show ((a.toNat % 2 ^ 8 : Nat) : Int) = a from by omega]
  | 1, _ => show some (Value.int .u8 b) = some (Value.int .u8 (((UInt8.ofNat b.toNat).toNat : Nat) : Int)); rw [UInt8.toNat_ofNat', show ((b.toNat % 2 ^ 8 : Nat) : Int) = b from by omega]
  | 2, _ => rfl
  | 3, _ => rfl
theorem nx_le {x n : Int} (h : x < n ∨ x = 0) (hn : 1 ≤ n) : x ≤ n - 1 := by omega
theorem u8_in (x : Int) (h0 : 0 ≤ x) (h1 : x ≤ 255) : IntKind.u8.wrap x = x := by rw [IntKind.wrap_u8']; omega
theorem size_four (u v : UInt8) : (⟨#[u, v, 0, 0]⟩ : ByteArray).size = 4 := rfl
theorem frame_le (p : ByteArray) (h : p.size ≤ 600) : (frameR p).size ≤ 608 := by
  unfold frameR
  rw [if_neg (by omega), ByteArray.size_append, frameB_size, leS_size]
  omega

set_option maxHeartbeats 1000000 in
theorem frames_long (cv : Value) (s : ByteArray) (a l : Int) (w : World) (hs : s.size ≤ maxLen) (ht : TabAt w) (hl : 600 < s.size) :
    Calls Tryd.prog 5 #[cv, .string s, .int .i64 a, .int .u8 l] w fun e w' => e = .returned (.bool true) ∧ Below w.heap.size w w' := by
  unfold maxLen at hs
  have HT := Lib.hid ht
  clear ht
  have d1 : decide (600 < (s.size : Int)) = true := by simp; omega
  go_enter Tryd.func5, Tryd.ntmps5
  go_wp2_with (go_at_call 8; refine (awake_any _ HT.out).mono ?_; rintro e w1 ⟨rfl, hb⟩)
  go_ret
  exact ⟨rfl, by assumption⟩

/-- what holds of the six texts, round after round -/
def FrRel (C B : Nat) (w wr : World) : Prop :=
  Besides C w wr ∧ CodesOk wr C ∧ B ≠ C ∧ B < wr.heap.size ∧ ∀ j, j < 6 → ∃ t : ByteArray, wr.cell? ⟨B, j, none⟩ = some (.string t) ∧ t.size ≤ 2000
theorem FrRel.step {C B : Nat} {w wr wn : World} (h : FrRel C B w wr) (hb : Besides C wr wn) (hc : CodesOk wn C) : FrRel C B w wn := by
  obtain ⟨h1, h2, h3, h4, h5⟩ := h
  refine ⟨h1.trans hb, hc, h3, Nat.lt_of_lt_of_le h4 hb.size, fun j hj => ?_⟩
  obtain ⟨t, ht, hs⟩ := h5 j hj
  exact ⟨t, by rw [hb.cell (p := ⟨B, j, none⟩) h4 h3]; exact ht, hs⟩
theorem info_u8 : (Tryd.prog.info? 5).map (fun i => (i.zero, i.size, i.bytes)) = some (some (.int .u8 0), 1, 1) := by kernel_rfl
theorem conv_made (w : World) (m : Nat) : ∃ s : ByteArray, s.size = m ∧ Sem.run Tryd.prog (convert 31 9 (.slice (some ⟨w.heap.size, 0, none⟩) m m)) (w.alloc (.cells (madeCells #[.int .u8 0] m) 5)) = .ok (.string s) (w.alloc (.cells (madeCells #[.int .u8 0] m) 5)) := by
  refine ⟨⟨(List.replicate m 0).toArray⟩, by show (List.replicate m (0 : UInt8)).toArray.size = m; simp, ?_⟩
  have := run_convert_bytes_back (P := Tryd.prog) (w.alloc (.cells (madeCells #[.int .u8 0] m) 5)) 31 9 5 ⟨w.heap.size, 0, none⟩ m (List.replicate m 0) Tryd.underlying31 Tryd.underlying5 Tryd.underlying9 (fun j hj => by
    have ea : (⟨w.heap.size, 0, none⟩ : Addr).add j = ⟨w.heap.size, j, none⟩ := by
      simp only [Addr.add]; split
      · next h => rw [h]
      · simp
    have hl := toList_madeCells_one (.int .u8 0) m
    rw [ea, World.cell?_alloc_new, ← Array.getElem?_toList, hl, List.getElem?_replicate, if_pos (by simpa using hj), List.getElem_replicate]
    rfl)
  rw [List.length_replicate] at this
  exact this

set_option maxRecDepth 100000 in
set_option maxHeartbeats 4000000 in
theorem frames_short (x : Option Addr) (len cap : Nat) (zs : List Int) (s : ByteArray) (a l : Int) (w : World) (hr : IsRow .u8 w x len cap zs) (ht : TabAt w) (hl : s.size ≤ 600) (l0 : 0 ≤ l) (l1 : l ≤ 255) :
    Calls Tryd.prog 5 #[.slice x len cap, .string s, .int .i64 a, .int .u8 l] w fun e w' => e = .returned (.bool true) ∧ Below w.heap.size w w' := by
  have HT := Lib.hid ht
  have HR := Lib.hid hr
  clear ht hr
  have d1 : decide (600 < (s.size : Int)) = false := by simp; omega
  go_enter Tryd.func5, Tryd.ntmps5
  go_wp2_with fail
  refine (awake_any _ HT.out).mono ?_
  rintro e w1 ⟨rfl, hb⟩
  have HR1 : Hid (IsRow .u8 w1 x len cap zs) := by
    have h := HR.out
    rcases h with h | ⟨y, rfl, h1, h2, h3, h4, h5⟩
    · exact Or.inl h
    · refine Or.inr ⟨y, rfl, h1, h2, h3, fun i hi => ?_, h5⟩
      have hc := h4 i hi
      rw [hb.cell (World.block_lt_of_cell? w _ hc)]
      exact hc
  have HT1 := Lib.hid (HT.out.below hb)
  go_wp2_with fail
  refine (new_any _ _ _ zs _ HR1.out).mono ?_
  rintro e w2 ⟨rfl, hb2, hc2⟩
  have HT2 := Lib.hid (HT1.out.below hb2)
  have hC : w.heap.size ≤ w1.heap.size := hb.size
  have HBw := Lib.hid (hb.trans (hb2.mono hC))
  have HCC := Lib.hid hc2
  have HFin : Hid (∀ W' : World, Besides w1.heap.size w2 W' → Below w.heap.size w W') := fun W' h => HBw.out.trans (h.below hC HBw.out.size)
  have HTab : Hid (∀ W' : World, Besides w1.heap.size w2 W' → TabAt W') := fun W' h => HT.out.below (HFin.out W' h)
  clear hb hb2 hc2
  generalize w1.heap.size = C at *
  go_wp2_with fail
  refine (rframe_any _ _ (by unfold maxLen; omega)).mono ?_
  rintro e w3 ⟨rfl, hb3⟩
  have hC2 := HCC.out.lt
  have HBS := Besides.of_below (C := C) hb3
  have HCS := HCC.out.below hb3 hC2
  have hf := frame_le s hl
  generalize frameR s = f at *
  have hfw : IntKind.i64.wrap ((f.size : Int) + 1) = (f.size : Int) + 1 := IntWalk.i64_in _ (by omega)
  have ha1 : ∀ W : World, Sem.run Tryd.prog (Op.stringOp .add s f) W = .ok (.string (s ++ f)) W := fun W => run_string_add_sum W _ _ (by omega)
  have ha2 : ∀ (u v : UInt8) (W : World), Sem.run Tryd.prog (Op.stringOp .add ⟨#[u, v, 0, 0]⟩ s) W = .ok (.string (⟨#[u, v, 0, 0]⟩ ++ s)) W := fun u v W => run_string_add_sum W _ _ (by rw [size_four]; omega)
  go_wp2_with fail
  replace HBS := HBS.drew
  replace HCS := HCS.drew
  clear d1 HT HR HR1 HT1 HBw hC HT2 HCC hb3
  go_region_with (first | (go_at_call 15; refine (spoilt_any C f _ HCS (by omega)).mono ?_; rintro e w4 ⟨sp, rfl, hsp, hb, hc⟩; replace HBS := HBS.trans hb; clear HCS hb; have HCS := hc; clear hc) | (go_at_call_of 16 (Value.int IntKind.i64 (256 : Int)); refine (next_any C 256 _ HCS (by omega)).mono ?_; rintro e w4 ⟨xa, rfl, xa0, xa1, hb, hc⟩; replace HBS := HBS.trans hb; clear HCS hb; have HCS := hc; clear hc; replace xa1 := nx_le xa1 (by omega); have hxa : IntKind.u8.wrap xa = xa := u8_in xa xa0 (by omega)) | (go_at_call_of 16 (Value.int IntKind.i64 (64 : Int)); refine (next_any C 64 _ HCS (by omega)).mono ?_; rintro e w4 ⟨xb, rfl, xb0, xb1, hb, hc⟩; replace HBS := HBS.trans hb; clear HCS hb; have HCS := hc; clear hc; replace xb1 := nx_le xb1 (by omega); have hxb : IntKind.u8.wrap xb = xb := u8_in xb xb0 (by omega); obtain ⟨u, v, hcv⟩ := conv4_ex w4 xa xb xa0 (by omega) xb0 (by omega)) | (go_at_call 16; refine (next_any C _ _ HCS (by omega)).mono ?_; rintro e w4 ⟨xn, rfl, xn0, xn1, hb, hc⟩; replace HBS := HBS.trans hb; clear HCS hb; have HCS := hc; clear hc; replace xn1 := nx_le xn1 (by omega); have xn2 : xn ≤ (f.size : Int) := (by omega)))
  go_wp2_with fail
  simp only [Act.put, List.getElem_toArray, List.getElem_cons_succ, List.getElem_cons_zero, List.setIfInBounds_toArray, List.set_cons_succ, List.set_cons_zero]
  have hsf : (s ++ f).size ≤ 2000 := by rw [ByteArray.size_append]; omega
  have hff : (f.extract 0 xn.toNat).size ≤ 2000 := by rw [ByteArray.size_extract]; omega
  have hs4 : ((⟨#[u, v, 0, 0]⟩ : ByteArray) ++ s).size ≤ 2000 := by rw [ByteArray.size_append, size_four]; omega
  have HREL : FrRel C (w4.heap.size + 1) w2 ((w4.alloc (.cells #[.int .u8 xa, .int .u8 xb, .int .u8 0, .int .u8 0] 5)).alloc (.cells #[.string s, .string f, .string sp, .string (s ++ f), .string (f.extract 0 xn.toNat), .string (⟨#[u, v, 0, 0]⟩ ++ s)] 9)) := by
    have hlt := HCS.lt
    refine ⟨(HBS.alloc _).alloc _, HCS.below (((Below.refl _ _).alloc (Nat.le_refl _) _).alloc (by simp) _) hlt, by omega, by simp, fun j hj => ?_⟩
    have e : w4.heap.size + 1 = (w4.alloc (.cells #[.int .u8 xa, .int .u8 xb, .int .u8 0, .int .u8 0] 5)).heap.size := by simp
    rw [e, World.cell?_alloc_new]
    match j, hj with
    | 0, _ => exact ⟨s, rfl, by omega⟩
    | 1, _ => exact ⟨f, rfl, by omega⟩
    | 2, _ => exact ⟨sp, rfl, by omega⟩
    | 3, _ => exact ⟨_, rfl, hsf⟩
    | 4, _ => exact ⟨_, rfl, hff⟩
    | 5, _ => exact ⟨_, rfl, hs4⟩
  clear hcv HBS HCS ha1 ha2 hfw hsf hff hs4 hxa hxb
  generalize hWS : (w4.alloc (.cells #[.int .u8 xa, .int .u8 xb, .int .u8 0, .int .u8 0] 5)).alloc (.cells #[.string s, .string f, .string sp, .string (s ++ f), .string (f.extract 0 xn.toNat), .string (⟨#[u, v, 0, 0]⟩ ++ s)] 9) = wS at HREL ⊢
  clear hWS
  generalize w4.heap.size + 1 = B at HREL ⊢
  have HREL0 := Lib.hid HREL
  clear HREL
  go_loopw [63] (fun i wr => ∃ j : Nat, j ≤ 6 ∧ i = .int .i64 j ∧ FrRel C B w2 wr) (fun i _ => 6 - (intOf i).toNat)
  case atStart => exact ⟨0, by omega, rfl, HREL0.out⟩
  case round =>
    obtain ⟨j, hj, rfl, hrl⟩ := hrel
    by_cases hlt : j < 6
    · obtain ⟨t, ht, hts⟩ := hrl.2.2.2.2 j hlt
      have hcs := hrl.2.1
      have HRL := Lib.hid hrl
      clear hrl
      go_wp2_with fail
      refine (next_any C _ _ hcs (by omega)).mono ?_
      rintro e w5 ⟨n, rfl, n0, n1, hb, hc⟩
      have HR5 := Lib.hid (HRL.out.step hb hc)
      clear hb hc hcs ht
      go_wp2_with fail
      have hcell : ∀ j2, j2 < 4 → ∃ y : Int, (w5.alloc (.cells #[.int .i64 a, .int .i64 0, .int .i64 s.size, .int .i64 n] 3)).cell? ⟨w5.heap.size, j2, none⟩ = some (.int .i64 y) := by
        intro j2 h2
        rw [World.cell?_alloc_new]
        match j2, h2 with
        | 0, _ => exact ⟨_, rfl⟩
        | 1, _ => exact ⟨_, rfl⟩
        | 2, _ => exact ⟨_, rfl⟩
        | 3, _ => exact ⟨_, rfl⟩
      have hR6 : FrRel C B w2 (w5.alloc (.cells #[.int .i64 a, .int .i64 0, .int .i64 s.size, .int .i64 n] 3)) := HR5.out.step ((Besides.refl _ _).alloc _) (HR5.out.2.1.below ((Below.refl _ _).alloc (Nat.le_refl _) _) HR5.out.2.1.lt)
      have HCE := Lib.hid hcell
      have HR6 := Lib.hid hR6
      clear hcell hR6 HR5 HRL
      generalize w5.alloc (.cells #[.int .i64 a, .int .i64 0, .int .i64 s.size, .int .i64 n] 3) = w6 at HCE HR6 ⊢
      generalize w5.heap.size = b5 at HCE ⊢
      have HT6 := Lib.hid (HTab.out w6 HR6.out.1)
      go_loop [77] (fun i => ∃ j2 : Nat, j2 ≤ 4 ∧ i = .int .i64 j2) (fun i => 4 - (intOf i).toNat)
      case atStart => exact ⟨0, by omega, rfl⟩
      case round =>
        obtain ⟨j2, hj2, rfl⟩ := hrel
        by_cases hlt2 : j2 < 4
        · obtain ⟨y, hy⟩ := HCE.out j2 hlt2
          go_wp2_with fail
          refine (unf_tup t y _ (by omega) HT6.out).mono ?_
          rintro e w7 ⟨rfl, rfl⟩
          go_wp2_with fail
          refine (runf_tup t y _ (by omega)).mono ?_
          rintro e w7 ⟨rfl, rfl⟩
          generalize (unfR t y).1 = r1
          generalize (unfR t y).2.1 = r2
          generalize (unfR t y).2.2 = r3
          go_wp2
          go_round
          case rel => exact ⟨j2 + 1, by omega, by go_num⟩
          case measure => simp [intOf]; omega
        · go_wp2_with fail
          refine (sum_any t _ (by unfold maxLen; omega) HT6.out).mono ?_
          rintro e w7 ⟨rfl, rfl⟩
          go_wp2_with fail
          refine (rsum_any t _ (by unfold maxLen; omega)).mono ?_
          rintro e w7 ⟨rfl, rfl⟩
          generalize ((Crc.sum t.data.toList).toNat : Int) = q
          go_wp2_with fail
          refine (frame_any t _ (by unfold maxLen; omega) HT6.out).mono ?_
          rintro e w7 ⟨rfl, hb7⟩
          have HR7 := Lib.hid (HR6.out.step (Besides.of_below hb7) (HR6.out.2.1.below hb7 HR6.out.2.1.lt))
          clear hb7
          go_wp2_with fail
          refine (rframe_any t _ (by unfold maxLen; omega)).mono ?_
          rintro e w8 ⟨rfl, hb8⟩
          have HR8 := Lib.hid (HR7.out.step (Besides.of_below hb8) (HR7.out.2.1.below hb8 HR7.out.2.1.lt))
          clear hb8
          generalize frameR t = fr
          go_wp2
          go_roundw
          case rel => exact ⟨j + 1, by omega, by go_num, HR8.out⟩
          case measure => simp [intOf]; omega
    · have hcs := hrl.2.1
      have HRL := Lib.hid hrl
      clear hrl
      go_wp2_with fail
      refine (next_any C 8 _ hcs (by omega)).mono ?_
      rintro e w5 ⟨n, rfl, n0, n1, hb, hc⟩
      have HR5 := Lib.hid (HRL.out.step hb hc)
      clear hb hc hcs
      by_cases hn : 0 < n
      · go_wp2_with fail
        go_ret
        exact ⟨rfl, HFin.out _ HR5.out.1⟩
      · obtain ⟨m, hm⟩ : ∃ m : Nat, 8390 + l % 5 = (m : Int) := ⟨(8390 + l % 5).toNat, by omega⟩
        have hm1 : m ≤ 8394 := by omega
        have hmk : ∀ W : World, Sem.run Tryd.prog (Instr.makeSlice 31 (.int .i64 (m : Int)) (.int .i64 (m : Int))) W = .ok (.slice (some ⟨W.heap.size, 0, none⟩) m m) (W.alloc (.cells (madeCells #[.int .u8 0] m) 5)) := fun W =>
          run_make_row' 31 5 (.int .u8 0) 1 Tryd.underlying31 info_u8 rfl .i64 .i64 m (by omega) (by omega) W
        obtain ⟨wide, hwide, hcv⟩ := conv_made w5 m
        have hws : wide.size ≤ 8394 := by omega
        have HR6 := Lib.hid (HR5.out.step ((Besides.refl C w5).alloc (.cells (madeCells #[.int .u8 0] m) 5)) (HR5.out.2.1.below ((Below.refl _ _).alloc (Nat.le_refl _) _) HR5.out.2.1.lt))
        clear hwide
        go_wp2_with fail
        clear hmk hcv hm
        generalize w5.alloc (.cells (madeCells #[.int .u8 0] m) 5) = w6 at HR6 ⊢
        refine (frame_any wide _ (by unfold maxLen; omega) (HTab.out w6 HR6.out.1)).mono ?_
        rintro e w7 ⟨rfl, hb7⟩
        have HR7 := Lib.hid (HR6.out.step (Besides.of_below hb7) (HR6.out.2.1.below hb7 HR6.out.2.1.lt))
        clear hb7
        go_wp2_with fail
        refine (rframe_any wide _ (by unfold maxLen; omega)).mono ?_
        rintro e w8 ⟨rfl, hb8⟩
        have HR8 := Lib.hid (HR7.out.step (Besides.of_below hb8) (HR7.out.2.1.below hb8 HR7.out.2.1.lt))
        clear hb8
        generalize frameR wide = fr
        go_wp2
        go_ret
        exact ⟨rfl, HFin.out _ HR8.out.1⟩

theorem frames_any (x : Option Addr) (len cap : Nat) (zs : List Int) (s : ByteArray) (a l : Int) (w : World) (hr : IsRow .u8 w x len cap zs) (hs : s.size ≤ maxLen) (ht : TabAt w) (l0 : 0 ≤ l) (l1 : l ≤ 255) :
    Calls Tryd.prog 5 #[.slice x len cap, .string s, .int .i64 a, .int .u8 l] w fun e w' => e = .returned (.bool true) ∧ Below w.heap.size w w' := by
  by_cases hl : 600 < s.size
  · exact frames_long _ s a l w hs ht hl
  · exact frames_short x len cap zs s a l w hr ht (by omega) l0 l1
end Go.Proofs.YtccepdbglgpniaaDoor
