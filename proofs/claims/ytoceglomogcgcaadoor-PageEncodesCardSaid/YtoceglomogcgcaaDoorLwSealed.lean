/- the law package's own choice: bytes that are sealed -/
import Derived.Test.YtoceglomogcgcaaDoorLwEnv
import Derived.Lib.ConvBytes
namespace Go.Proofs.YtoceglomogcgcaaDoor
open Go.RowKit

/-- the first bytes of a block, that may be written -/
structure Buf (w : World) (B : Nat) (l : List UInt8) : Prop where
  lt : B < w.heap.size
  cell : ∀ i (h : i < l.length), w.cell? ⟨B, i, none⟩ = some (.int .u8 (l[i].toNat : Int))
  fro : ∀ i, i < l.length → w.frozen? ⟨B, i, none⟩ = false
theorem Buf.besides {w w' : World} {B C : Nat} {l : List UInt8} (h : Buf w B l) (hb : Besides C w w') (hC : B ≠ C) : Buf w' B l :=
  ⟨Nat.lt_of_lt_of_le h.lt hb.size, fun i hi => (hb.cell (p := ⟨B, i, none⟩) h.lt hC).trans (h.cell i hi), fun i hi => (hb.frozen (p := ⟨B, i, none⟩) h.lt hC).trans (h.fro i hi)⟩
theorem Buf.set {w : World} {B : Nat} {l : List UInt8} (h : Buf w B l) (k : Nat) (hk : k < l.length) (x : Int) (x0 : 0 ≤ x) (x1 : x ≤ 255) : Buf (w.setCell ⟨B, k, none⟩ (.int .u8 x)) B (l.set k (UInt8.ofNat x.toNat)) := by
  refine ⟨by simpa [World.setCell] using h.lt, fun i hi => ?_, fun i hi => by rw [World.frozen?_setCell]; exact h.fro i (by simpa using hi)⟩
  have hi' : i < l.length := by simpa using hi
  rw [List.getElem_set]
  by_cases e : k = i
  · subst e
    rw [if_pos rfl, World.cell?_setCell_same _ _ _ (h.cell k hk), UInt8.toNat_ofNat', show ((x.toNat % 2 ^ 8 : Nat) : Int) = x from by omega]
  · rw [if_neg e, World.cell?_setCell_other _ _ _ _ (by intro h'; cases h'; exact e rfl)]
    exact h.cell i hi'
theorem Buf.conv {w : World} {B : Nat} {l : List UInt8} (h : Buf w B l) (n c : Nat) (hn : n ≤ l.length) : Sem.run Tryd.prog (convert 22 9 (.slice (some ⟨B, 0, none⟩) n c)) w = .ok (.string (ofL (l.take n))) w := by
  have hl : (l.take n).length = n := by rw [List.length_take]; omega
  have := run_convert_bytes_back (P := Tryd.prog) w 22 9 5 ⟨B, 0, none⟩ c (l.take n) Tryd.underlying22 Tryd.underlying5 Tryd.underlying9 (fun j hj => by
    rw [hl] at hj
    rw [Addr.add_mid, Nat.zero_add, List.getElem_take]
    exact h.cell j (by omega))
  rw [hl] at this
  exact this
/-- a text's bytes in a new block -/
theorem text_bytes (w : World) (s : ByteArray) : ∃ w2 cap, Sem.run Tryd.prog (convert 9 22 (.string s)) w = .ok (.slice (some ⟨w.heap.size, 0, none⟩) s.size cap) w2 ∧ s.size ≤ cap ∧ Below w.heap.size w w2 ∧ Buf w2 w.heap.size s.data.toList := by
  refine ⟨_, _, Go.Lib.run_convert_string_bytes (P := Tryd.prog) w 9 22 5 s Tryd.underlying9 Tryd.underlying22 Tryd.underlying5, grownCap_ge _ _ _ _, ⟨rfl, rfl, rfl, by rw [Go.Lib.bytesWorld_size]; omega, fun k hk => Go.Lib.bytesWorld_at_old _ _ _ _ hk⟩, ⟨by rw [Go.Lib.bytesWorld_size]; omega, fun i hi => ?_, fun i hi => ?_⟩⟩
  · rw [Go.Lib.bytesWorld_cell _ _ _ _ (by rw [← size_list]; exact hi), List.getD_eq_getElem?_getD, List.getElem?_eq_getElem hi]
    rfl
  · have hn := Go.Lib.bytesWorld_at_new w 5 s
    have hz : s.size ≤ (Go.Lib.bytesCells w 5 s).size := by
      unfold Go.Lib.bytesCells
      rw [Array.size_append, Array.size_map]
      show s.data.size ≤ _
      omega
    have hi' : i < s.size := by rw [← size_list]; exact hi
    simp [World.frozen?, hn]
    omega
theorem seal_size (s : ByteArray) (h : s.size = 244) : (sealR s).size = 256 := by
  unfold sealR
  rw [ByteArray.size_append, show putR s ((Crc.sum s.data.toList).toNat : Int) 4 = _ from putR_list s _ 4 (by decide) (by decide), ofL_size, List.length_append, leL_length, size_list, ByteArray.size_extract]
  omega
set_option maxHeartbeats 4000000 in
theorem sealed_any (C : Nat) (s : ByteArray) (w : World) (h : CodesOk w C) (hs : s.size = 256) :
    Calls Tryd.prog 29 #[.pointer (some ⟨C, 0, none⟩), .string s] w fun e w' => ∃ X : ByteArray, e = .returned (.string X) ∧ X.size = 256 ∧ Besides C w w' ∧ CodesOk w' C := by
  obtain ⟨w2, cap, hcv, hcap, hb2, hbuf⟩ := text_bytes w s
  have HC2 := Lib.hid (h.below hb2 h.lt)
  have HB2 := Lib.hid (Besides.of_below (C := C) hb2)
  have HBC : Hid (w.heap.size ≠ C) := by have := h.lt; show _ ≠ _; omega
  have HCB : Hid (C < w.heap.size) := h.lt
  have HL2 : Hid (s.data.toList.length = 256) := by show _ = _; rw [size_list, hs]
  have HBf := Lib.hid hbuf
  have hcap2 : 256 ≤ cap := by omega
  have hcap3 : (244 : Int) ≤ (cap : Int) := by omega
  rw [hs] at hcv
  clear h hb2 hbuf hcap hs
  generalize s.data.toList = l0 at *
  go_enter Tryd.func29, Tryd.ntmps29
  go_wp2_with fail
  refine (next_any C 4 _ HC2.out (by omega)).mono ?_
  rintro e w3 ⟨n, rfl, n0, n1, hb3, hc3⟩
  have HB3 := Lib.hid (HB2.out.trans hb3)
  have HC3 := Lib.hid hc3
  have HF3 := Lib.hid (HBf.out.besides hb3 HBC.out)
  have n3 : n ≤ 3 := by omega
  clear hb3 hc3 n1 hcv HC2 HB2 HBf
  go_wp2_with fail
  go_loopw [6] (fun i wr => ∃ (k : Int) (l : List UInt8), 0 ≤ k ∧ k ≤ 3 ∧ i = .int .i64 k ∧ l.length = 256 ∧ Buf wr w.heap.size l ∧ Besides C w wr ∧ CodesOk wr C) (fun i _ => (intOf i).toNat)
  case atStart => exact ⟨n, l0, n0, n3, rfl, HL2.out, HF3.out, HB3.out, HC3.out⟩
  case round =>
    obtain ⟨k, l, k0, k3, rfl, hl, hf, hb, hc⟩ := hrel
    have HL := Lib.hid hl
    have HF := Lib.hid hf
    have HB := Lib.hid hb
    have HC := Lib.hid hc
    clear hl hf hb hc
    by_cases hk : 0 < k
    · go_wp2_with fail
      refine (next_any C 244 _ HC.out (by omega)).mono ?_
      rintro e w4 ⟨j, rfl, j0, j1, hb4, hc4⟩
      obtain ⟨j, rfl⟩ := Int.eq_ofNat_of_zero_le j0
      have hj : j < 244 := by omega
      have HB4 := Lib.hid (HB.out.trans hb4)
      have HC4 := Lib.hid hc4
      have HF4 := Lib.hid (HF.out.besides hb4 HBC.out)
      clear hb4 hc4 j0 j1
      go_wp2_with fail
      refine (next_any C 256 _ HC4.out (by omega)).mono ?_
      rintro e w5 ⟨y, rfl, y0, y1, hb5, hc5⟩
      have y2 : y ≤ 255 := by omega
      have HB5 := Lib.hid (HB4.out.trans hb5)
      have HC5 := Lib.hid hc5
      have HF5 := Lib.hid (HF4.out.besides hb5 HBC.out)
      have HY : Hid (0 ≤ y ∧ y ≤ 255) := ⟨y0, y2⟩
      have hwy : IntKind.u8.wrap y = y := IntWalk.u8_in _ ⟨y0, y2⟩
      have hji : (j : Int) < 256 := by omega
      have hjl : j < l.length := by rw [HL.out]; omega
      have HJ := Lib.hid hjl
      have c0 := HF5.out.cell j hjl
      have f0 := HF5.out.fro j hjl
      generalize l[j] = old at c0
      clear hb5 hc5 y1 hjl
      go_wp2_with fail
      go_roundw
      case rel => exact ⟨k - 1, l.set j (UInt8.ofNat y.toNat), by omega, by omega, by first | rfl | (congr 1; exact IntWalk.i64_in _ (by omega)), by rw [List.length_set]; exact HL.out, HF5.out.set j HJ.out y HY.out.1 HY.out.2, HB5.out.setOwn (Nat.le_refl _) _ _, HC5.out.setOwn HCB.out _ _⟩
      case measure => simp [intOf]; omega
    · have hcv := HF.out.conv 244 cap (by rw [HL.out]; omega)
      have hsz : (ofL (l.take 244)).size = 244 := by rw [ofL_size, List.length_take, HL.out]; rfl
      have HSL : Hid (Calls Tryd.prog 50 #[.string (ofL (l.take 244))] wr fun e w' => e = .returned (.string (sealR (ofL (l.take 244)))) ∧ Below wr.heap.size wr w') := rseal _ wr (by omega) (by omega)
      have HSS := Lib.hid (seal_size _ hsz)
      generalize ofL (l.take 244) = t at *
      clear hsz
      go_wp2_with fail
      refine HSL.out.mono ?_
      rintro e w6 ⟨rfl, hb6⟩
      have HB6 := Lib.hid (HB.out.trans (.of_below hb6))
      have HC6 := Lib.hid (HC.out.below hb6 HC.out.lt)
      clear hb6
      go_wp2_with fail
      go_ret
      exact ⟨_, rfl, HSS.out, HB6.out, HC6.out⟩
end Go.Proofs.YtoceglomogcgcaaDoor
