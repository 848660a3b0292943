/- the law CodecSum: the checksum of a text that was changed in at most four neighbouring bytes is that of the text only if nothing was changed -/
import Derived.Test.YtccepdbglgpniaaDoorCdL1
import Derived.Test.YtccepdbglgpniaaDoorCrcTxt
import Derived.RegionTactic
import Derived.ChangeAlike
import Derived.BigRegion
namespace Go.Proofs.YtccepdbglgpniaaDoor
open Go.RowKit

/-- what holds of the copy behind k rounds -/
def CopyRel (s : ByteArray) (e : Nat → UInt8) (p : Nat) (B C : Nat) (w wr : World) (k : Nat) : Prop :=
  Below w.heap.size w wr ∧ (∀ j, j < s.size → wr.cell? ⟨B, j, none⟩ = some (.int .u8 (((Crc.updN s.data.toList p e k).getD j 0).toNat : Int))) ∧ (∀ j, j < s.size → wr.frozen? ⟨B, j, none⟩ = false)
    ∧ (∀ j, j < 4 → wr.cell? ⟨C, j, none⟩ = some (.int .u8 ((e j).toNat : Int)))

theorem xor_u8 (a b : UInt8) : bits .xor .u8 (a.toNat : Int) (b.toNat : Int) = ((a ^^^ b).toNat : Int) := by
  rw [u8_xor_nat _ _ a.toNat_lt b.toNat_lt, UInt8.toNat_xor]
theorem CopyRel.drew {s : ByteArray} {e : Nat → UInt8} {p B C : Nat} {w wr : World} {k : Nat} (h : CopyRel s e p B C w wr k) : CopyRel s e p B C w wr.drew k := ⟨h.1.drew, h.2.1, h.2.2.1, h.2.2.2⟩
theorem CopyRel.set {s : ByteArray} {e : Nat → UInt8} {p B C : Nat} {w wr : World} {k : Nat} (h : CopyRel s e p B C w wr k) (hB : w.heap.size ≤ B) (hBC : B ≠ C) (hk : p + k < s.size) :
    CopyRel s e p B C w (wr.setCell ⟨B, p + k, none⟩ (.int .u8 (((Crc.updN s.data.toList p e k).getD (p + k) 0 ^^^ e k).toNat : Int))) (k + 1) := by
  obtain ⟨hb, hc, hf, he⟩ := h
  have hlen : (Crc.updN s.data.toList p e k).length = s.size := by rw [Crc.updN_length]; simp
  refine ⟨hb.setCell hB _, fun j hj => ?_, fun j hj => by rw [World.frozen?_setCell]; exact hf j hj, fun j hj => ?_⟩
  · rw [Crc.updN, Crc.upd_getD _ _ _ _ (by omega)]
    by_cases ej : j = p + k
    · subst ej
      rw [World.cell?_setCell_same wr _ _ (hc _ hj), if_pos rfl]
    · rw [World.cell?_setCell_other wr _ _ _ (by intro h; cases h; exact ej rfl), hc j hj, if_neg ej]
  · rw [World.cell?_setCell_other wr _ _ _ (by intro h; cases h; exact hBC rfl), he j hj]
theorem CopyRel.stay {s : ByteArray} {e : Nat → UInt8} {p B C : Nat} {w wr : World} {k : Nat} (h : CopyRel s e p B C w wr k) (hk : ¬ p + k < s.size) : CopyRel s e p B C w wr (k + 1) := by
  have hlen : (Crc.updN s.data.toList p e k).length = s.size := by rw [Crc.updN_length]; simp
  unfold CopyRel
  rw [Crc.updN, Crc.upd_out _ _ _ (by omega)]
  exact h
/-- the four bytes -/
def four4 (b0 b1 b2 b3 : UInt8) (i : Nat) : UInt8 := [b0, b1, b2, b3].getD i 0

set_option maxHeartbeats 1000000 in
theorem csum_any (s : ByteArray) (a : Int) (b0 b1 b2 b3 : UInt8) (w : World) (hs : s.size ≤ maxLen) (ht : TabAt w) (a0 : 0 ≤ a) (a1 : a ≤ 65535) :
    Calls Tryd.prog 7 #[.string s, .int .u16 a, .agg #[.int .u8 (b0.toNat : Int), .int .u8 (b1.toNat : Int), .int .u8 (b2.toNat : Int), .int .u8 (b3.toNat : Int)]] w fun e w' => e = .returned (.bool true) ∧ Below w.heap.size w w' := by
  unfold maxLen at hs
  have HT := Lib.hid ht
  clear ht
  by_cases hl : 500 < s.size
  · have d1 : decide (500 < (s.size : Int)) = true := by simp; omega
    go_enter Tryd.func7, Tryd.ntmps7
    go_wp2_with fail
    refine (awake_any _ (HT.out.below ((Below.refl _ _).alloc (Nat.le_refl _) _))).mono ?_
    rintro e w1 ⟨rfl, hb⟩
    go_wp2
    go_ret
    exact ⟨rfl, ((Below.refl _ _).alloc (Nat.le_refl _) _).trans (hb.mono (by simp))⟩
  have d1 : decide (500 < (s.size : Int)) = false := by simp; omega
  go_enter Tryd.func7, Tryd.ntmps7
  go_wp2_with fail
  refine (awake_any _ (HT.out.below ((Below.refl _ _).alloc (Nat.le_refl _) _))).mono ?_
  rintro e w1 ⟨rfl, hb⟩
  have hconv := run_bytes_of_string (P := Tryd.prog) w1 9 31 5 s Tryd.underlying9 Tryd.underlying31 Tryd.underlying5
  obtain ⟨an, rfl⟩ := Int.eq_ofNat_of_zero_le a0
  have hrel0 : CopyRel s (four4 b0 b1 b2 b3) (an % s.size) w1.heap.size w.heap.size w ((w1.alloc (.cells (bytesRow s (grownCap w1 s.size 0 5)) 5 ((bytesRow s (grownCap w1 s.size 0 5)).size, (bytesRow s (grownCap w1 s.size 0 5)).size + 1))).drew) 0 := by
    have z1 := hb.size
    rw [World.size_alloc] at z1
    have hbw : Below w.heap.size w w1 := ((Below.refl _ _).alloc (Nat.le_refl _) _).trans (hb.mono (by simp))
    refine ⟨(hbw.alloc (by omega) _).drew, fun j hj => ?_, fun j hj => ?_, fun j hj => ?_⟩
    · show (w1.alloc _).cell? _ = _
      rw [World.cell?_alloc_mark, bytesRow_at s _ j hj, Crc.updN, getD_at s j hj]; rfl
    · show (w1.alloc _).frozen? _ = _
      have hsz : s.size ≤ (bytesRow s (grownCap w1 s.size 0 5)).size := by
        unfold bytesRow; rw [Array.size_append, Array.size_map]; exact Nat.le_add_right _ _
      rw [World.frozen?_alloc_mark, decide_eq_false (by omega), Bool.false_and]
    · show (w1.alloc _).cell? _ = _
      rw [World.cell?_alloc_lt _ _ _ (show w.heap.size < w1.heap.size by omega), hb.cell (p := ⟨w.heap.size, j, none⟩) (by simp), World.cell?_alloc_new]
      match j, hj with
      | 0, _ => rfl
      | 1, _ => rfl
      | 2, _ => rfl
      | 3, _ => rfl
  have HR := Lib.hid hrel0
  have hne : w1.heap.size ≠ w.heap.size := by have := hb.size; rw [World.size_alloc] at this; omega
  have HN := Lib.hid hne
  have HTb := Lib.hid (HT.out.below hrel0.1)
  have hBw : w.heap.size ≤ w1.heap.size := by have := hb.size; rw [World.size_alloc] at this; omega
  have HBw := Lib.hid hBw
  clear hrel0 hne hBw
  by_cases h0 : s.size = 0
  · have h0' : ¬ (0 : Int) < (s.size : Int) := by omega
    have HL : Hid (s.data.toList = []) := List.eq_nil_of_length_eq_zero (by simpa using h0)
    have H0 := Lib.hid h0
    clear h0
    have HLL : Hid (s = ⟨#[]⟩) := str_eq HL.out
    have hcb : Hid (∀ (W : World) (b c : Nat), Sem.run Tryd.prog (convert 31 9 (.slice (some ⟨b, 0, none⟩) 0 c)) W = .ok (.string ⟨#[]⟩) W) := fun W b c =>
      run_convert_bytes_back (P := Tryd.prog) W 31 9 5 ⟨b, 0, none⟩ c [] Tryd.underlying31 Tryd.underlying5 Tryd.underlying9 (fun j hj => by cases hj)
    have hz : (s.size : Int) = 0 := by rw [H0.out]; rfl
    have hzn := H0.out
    have HBr := Lib.hid HR.out.1
    rw [H0.out] at HTb HBr
    clear HR
    go_wp2_with fail
    clear hconv hb
    generalize grownCap w1 0 0 5 = cap at *
    generalize (w1.alloc _).drew = w2 at *
    generalize w1.heap.size = B at *
    have hcv := hcb.out w2 B cap
    refine wp_loop_rounds 1 ?_
    rw [rounds_succ]
    go_wp2_with fail
    refine (sum_any _ _ (by decide) HTb.out).mono ?_
    rintro e w3 ⟨rfl, rfl⟩
    go_wp2_with fail
    refine (sum_any _ _ (by unfold maxLen; omega) HTb.out).mono ?_
    rintro e w3 ⟨rfl, rfl⟩
    have hE : (((Crc.sum (⟨#[]⟩ : ByteArray).data.toList).toNat : Int) == ((Crc.sum s.data.toList).toNat : Int)) = true := by
      rw [HL.out]; simp
    generalize ((Crc.sum (⟨#[]⟩ : ByteArray).data.toList).toNat : Int) = x at *
    generalize ((Crc.sum s.data.toList).toNat : Int) = y at *
    go_wp2_with fail
    go_ret
    exact ⟨rfl, HBr.out⟩
  · have h0' : (0 : Int) < (s.size : Int) := by omega
    have hpl : an % s.size < s.size := Nat.mod_lt _ (by omega)
    have hpm : ((an : Nat) : Int) % (s.size : Int) = ((an % s.size : Nat) : Int) := by simp
    generalize an % s.size = p at *
    go_wp2_with fail
    clear hconv hb
    generalize grownCap w1 s.size 0 5 = cap at *
    generalize w1.alloc _ = w2 at *
    generalize w1.heap.size = B at *
    go_loopw [8, 9, 10] (fun c i _ wr => ∃ k : Nat, k ≤ 4 ∧ i = .int .i64 k ∧ c = .bool (Crc.chg s.size p (four4 b0 b1 b2 b3) k) ∧ CopyRel s (four4 b0 b1 b2 b3) p B w.heap.size w wr k) (fun _ i _ _ => 4 - (intOf i).toNat)
    case atStart => exact ⟨0, by omega, rfl, rfl, HR.out⟩
    case round =>
      obtain ⟨k, hk, rfl, rfl, hr⟩ := hrel
      by_cases h4 : k < 4
      · by_cases hin : p + k < s.size
        · have HS := Lib.hid (hr.set HBw.out HN.out hin)
          have he2 := (hr.set HBw.out HN.out hin).2.2.2 k h4
          have hc := hr.2.1 (p + k) hin
          have hf := hr.2.2.1 (p + k) hin
          have he := hr.2.2.2 k h4
          have hx := xor_u8 ((Crc.updN s.data.toList p (four4 b0 b1 b2 b3) k).getD (p + k) 0) (four4 b0 b1 b2 b3 k)
          have HC : Hid (Crc.chg s.size p (four4 b0 b1 b2 b3) (k + 1) = (Crc.chg s.size p (four4 b0 b1 b2 b3) k || four4 b0 b1 b2 b3 k != 0)) := by
            show _ = _
            rw [Crc.chg, decide_eq_true hin, Bool.true_and]
          generalize (Crc.updN s.data.toList p (four4 b0 b1 b2 b3) k).getD (p + k) 0 = u at *
          generalize four4 b0 b1 b2 b3 k = v at *
          generalize Crc.chg s.size p (four4 b0 b1 b2 b3) k = ch at *
          clear hr
          generalize u ^^^ v = X at *
          have HV : Hid (((v.toNat : Int) != 0) = (v != 0)) := by
            show _ = _
            rw [Bool.eq_iff_iff, bne_iff_ne, bne_iff_ne]
            constructor
            · intro h hv; apply h; rw [hv]; rfl
            · intro h hv; apply h; apply UInt8.toNat_inj.1; simpa using hv
          cases ch
          · cases hv : (v != 0)
            · have hv2 : ((v.toNat : Int) != 0) = false := by rw [HV.out, hv]
              have HCC : Hid (Crc.chg s.size p (four4 b0 b1 b2 b3) (k + 1) = false) := by show _ = _; rw [HC.out, hv]; rfl
              clear hv HV
              go_wp2
              go_region
              all_goals go_wp2
              all_goals go_roundw
              case rel => exact ⟨k + 1, by omega, by go_num, by rw [HCC.out], HS.out.drew⟩
              case measure => simp [intOf]; omega
            · have hv2 : ((v.toNat : Int) != 0) = true := by rw [HV.out, hv]
              have HCC : Hid (Crc.chg s.size p (four4 b0 b1 b2 b3) (k + 1) = true) := by show _ = _; rw [HC.out, hv]; rfl
              clear hv HV
              go_wp2
              go_region
              all_goals go_wp2
              all_goals go_roundw
              case rel => exact ⟨k + 1, by omega, by go_num, by rw [HCC.out], HS.out.drew⟩
              case measure => simp [intOf]; omega
          · have HCC : Hid (Crc.chg s.size p (four4 b0 b1 b2 b3) (k + 1) = true) := by show _ = _; rw [HC.out]; rfl
            go_wp2
            go_region
            all_goals go_wp2
            all_goals go_roundw
            case rel => exact ⟨k + 1, by omega, by go_num, by rw [HCC.out], HS.out.drew⟩
            case measure => simp [intOf]; omega
        · have HS := Lib.hid (hr.stay hin)
          have HC : Hid (Crc.chg s.size p (four4 b0 b1 b2 b3) (k + 1) = Crc.chg s.size p (four4 b0 b1 b2 b3) k) := by
            show _ = _
            rw [Crc.chg, decide_eq_false hin, Bool.false_and, Bool.or_false]
          generalize Crc.chg s.size p (four4 b0 b1 b2 b3) k = ch at *
          clear hr
          go_wp2
          go_roundw
          case rel => exact ⟨k + 1, by omega, by go_num, by rw [HC.out], HS.out⟩
          case measure => simp [intOf]; omega
      · obtain rfl : k = 4 := by omega
        have hlen : (Crc.updN s.data.toList p (four4 b0 b1 b2 b3) 4).length = s.size := by rw [Crc.updN_length]; simp
        have hback := run_convert_bytes_back (P := Tryd.prog) wr 31 9 5 ⟨B, 0, none⟩ cap (Crc.updN s.data.toList p (four4 b0 b1 b2 b3) 4) Tryd.underlying31 Tryd.underlying5 Tryd.underlying9 (fun j hj => by
          have ea : (⟨B, 0, none⟩ : Addr).add j = ⟨B, j, none⟩ := by
            simp only [Addr.add]; split
            · next h => rw [h]
            · simp
          have := hr.2.1 j (by omega)
          rw [ea, this, List.getD_eq_getElem?_getD, List.getElem?_eq_getElem hj, Option.getD_some])
        rw [hlen] at hback
        have hiff := Crc.sum_updN s.data.toList p (four4 b0 b1 b2 b3) 4 (by decide) (by have : s.data.toList.length = s.size := by simp
                                                                                        omega)
        have hl' : s.data.toList.length = s.size := by simp
        rw [hl'] at hiff
        have HI := Lib.hid hiff
        have HTr := Lib.hid (HT.out.below hr.1)
        have HBr := Lib.hid hr.1
        have hsz : (⟨(Crc.updN s.data.toList p (four4 b0 b1 b2 b3) 4).toArray⟩ : ByteArray).size ≤ 500 := by
          show (Crc.updN s.data.toList p (four4 b0 b1 b2 b3) 4).toArray.size ≤ 500
          rw [List.size_toArray, hlen]; omega
        have HD : Hid ((⟨(Crc.updN s.data.toList p (four4 b0 b1 b2 b3) 4).toArray⟩ : ByteArray).data.toList = Crc.updN s.data.toList p (four4 b0 b1 b2 b3) 4) := by
          show _ = _
          simp
        clear hr hlen hiff hl' HR
        generalize (⟨(Crc.updN s.data.toList p (four4 b0 b1 b2 b3) 4).toArray⟩ : ByteArray) = s2 at *
        generalize Crc.chg s.size p (four4 b0 b1 b2 b3) 4 = ch at *
        go_wp2_with fail
        refine (sum_any _ _ (by unfold maxLen; omega) HTr.out).mono ?_
        rintro e w3 ⟨rfl, rfl⟩
        go_wp2_with fail
        refine (sum_any _ _ (by unfold maxLen; omega) HTr.out).mono ?_
        rintro e w3 ⟨rfl, rfl⟩
        rw [HD.out]
        have HE : Hid ((((Crc.sum (Crc.updN s.data.toList p (four4 b0 b1 b2 b3) 4)).toNat : Int) == ((Crc.sum s.data.toList).toNat : Int)) = !ch) := by
          show _ = _
          cases ch
          · rw [HI.out.2 rfl]; simp
          · have hne : ¬ Crc.sum (Crc.updN s.data.toList p (four4 b0 b1 b2 b3) 4) = Crc.sum s.data.toList := fun h => by have := HI.out.1 h; cases this
            rw [beq_eq_false_iff_ne.2]; · rfl
            intro h
            apply hne
            apply BitVec.eq_of_toNat_eq
            omega
        generalize ((Crc.sum (Crc.updN s.data.toList p (four4 b0 b1 b2 b3) 4)).toNat : Int) = x at *
        generalize ((Crc.sum s.data.toList).toNat : Int) = y at *
        have hE := HE.out
        clear HE HI
        go_wp2_with fail
        go_ret
        exact ⟨by cases ch <;> rfl, HBr.out⟩
end Go.Proofs.YtccepdbglgpniaaDoor
