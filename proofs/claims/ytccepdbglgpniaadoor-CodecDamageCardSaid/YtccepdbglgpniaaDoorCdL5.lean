/- the law CodecDamage: a byte of a payload or of its checksum that is changed is noticed, and a frame without its end is short -/
import Derived.Test.YtccepdbglgpniaaDoorCdDmg
import Derived.RegionTactic
import Derived.ChangeAlike
import Derived.BigRegion
import Derived.Deep.RegionWith
namespace Go.Proofs.YtccepdbglgpniaaDoor
open Go.RowKit

theorem xor_u8 (a b : UInt8) : bits .xor .u8 (a.toNat : Int) (b.toNat : Int) = ((a ^^^ b).toNat : Int) := by
  rw [u8_xor_nat _ _ a.toNat_lt b.toNat_lt, UInt8.toNat_xor]
attribute [local irreducible] unfR frameR
set_option maxHeartbeats 1000000 in
theorem damage_any (p : ByteArray) (a : Int) (b : UInt8) (w : World) (hp : p.size ≤ maxLen) (ht : TabAt w) (a0 : 0 ≤ a) (a1 : a ≤ 65535) :
    Calls Tryd.prog 6 #[.string p, .int .u16 a, .int .u8 (b.toNat : Int)] w fun e w' => e = .returned (.bool true) ∧ Below w.heap.size w w' := by
  unfold maxLen at hp
  have HT := Lib.hid ht
  clear ht
  by_cases hl : 500 < p.size
  · have d1 : decide (500 < (p.size : Int)) = true := by simp; omega
    go_enter Tryd.func6, Tryd.ntmps6
    go_wp2_with (go_at_call 8; refine (awake_any _ HT.out).mono ?_; rintro e w1 ⟨rfl, hb⟩)
    go_ret
    exact ⟨rfl, by assumption⟩
  have d1 : decide (500 < (p.size : Int)) = false := by simp; omega
  by_cases hb0 : b = 0
  · subst hb0
    have d2 : (((0 : UInt8).toNat : Int) == 0) = true := by decide
    go_enter Tryd.func6, Tryd.ntmps6
    go_wp2_with (go_at_call 8; refine (awake_any _ HT.out).mono ?_; rintro e w1 ⟨rfl, hb⟩)
    go_ret
    exact ⟨rfl, by assumption⟩
  have d2 : ((b.toNat : Int) == 0) = false := by
    rw [beq_eq_false_iff_ne]
    intro h
    apply hb0
    apply UInt8.toNat_inj.1
    simpa using h
  have HB0 := Lib.hid hb0
  clear hb0
  go_enter Tryd.func6, Tryd.ntmps6
  go_wp2_with fail
  refine (awake_any _ HT.out).mono ?_
  rintro e w1 ⟨rfl, hb⟩
  have HT1 := Lib.hid (HT.out.below hb)
  go_wp2_with fail
  refine (frame_any _ _ (by unfold maxLen; omega) HT1.out).mono ?_
  rintro e w2 ⟨rfl, hb2⟩
  have HT2 := Lib.hid (HT1.out.below hb2)
  have HBw := Lib.hid (hb.trans (hb2.mono hb.size))
  have hfz := frame_size p (by omega)
  have hne : (((frameR p).size : Int) != (p.size : Int) + 8) = false := by rw [hfz]; simp
  have HFZ := Lib.hid hfz
  have hf8 : 8 ≤ (frameR p).size := by omega
  have hf508 : (frameR p).size ≤ 508 := by omega
  clear hfz hb hb2
  obtain ⟨an, rfl⟩ := Int.eq_ofNat_of_zero_le a0
  obtain ⟨k, hk⟩ : ∃ k : Nat, 4 + (an : Int) % (((frameR p).size : Int) - 4) = k := ⟨(4 + (an : Int) % (((frameR p).size : Int) - 4)).toNat, by
    have := Int.emod_nonneg (an : Int) (show ((frameR p).size : Int) - 4 ≠ 0 by omega)
    omega⟩
  have hk1 := Int.emod_nonneg (an : Int) (show ((frameR p).size : Int) - 4 ≠ 0 by omega)
  have hk2 := Int.emod_lt_of_pos (an : Int) (show (0 : Int) < ((frameR p).size : Int) - 4 by omega)
  have hk4 : 4 ≤ k := by omega
  have hkf : k < (frameR p).size := by omega
  clear hk1 hk2
  have hp500 : p.size ≤ 500 := by omega
  have hkp : k < p.size + 8 := by have := HFZ.out; omega
  have HU : Hid (unfR (frameR p) 0 = (p, (p.size : Int) + 8, 0)) := unf_frame p (by omega)
  have HC : Hid ((unfR ((frameR p).extract 0 k) 0).2.2 = 5) := unf_cut p (by omega) k hk4 hkp
  have HG : Hid ((unfR ((frameR p).extract 0 k ++ ⟨#[(frameR p)[k] ^^^ b]⟩ ++ (frameR p).extract (k + 1) (frameR p).size) 0).2.2 = 3) := by
    refine unf_changed p (by omega) _ k b HB0.out hk4 hkp ?_
    have hlen := size_list (frameR p)
    rw [str_app, str_app, extract_list, extract_list, List.drop_zero, ← hlen, List.take_length]
    show _ ++ [_] ++ _ = _
    unfold Crc.upd
    rw [getD_at _ _ hkf, List.set_eq_take_append_cons_drop, if_pos (by omega), List.append_assoc]
    rfl
  have HX := xor_u8 (frameR p)[k] b
  generalize hX : (frameR p)[k] ^^^ b = X at HG HX
  clear hX
  have hkw : IntKind.i64.wrap ((k : Int) + 1) = (k : Int) + 1 := IntWalk.i64_in _ (by omega)
  have hz1 : ((frameR p).extract 0 k).size = k := by rw [ByteArray.size_extract]; omega
  have hcv : ∀ W : World, W.cell? ⟨w2.heap.size, 0, none⟩ = some (.int .u8 (X.toNat : Int)) → Sem.run Tryd.prog (convert 31 9 (.slice (some ⟨w2.heap.size, 0, none⟩) 1 1)) W = .ok (.string ⟨#[X]⟩) W := fun W hW =>
    run_convert_bytes_back (P := Tryd.prog) W 31 9 5 ⟨w2.heap.size, 0, none⟩ 1 [X] Tryd.underlying31 Tryd.underlying5 Tryd.underlying9 (fun j hj => by
      have : j = 0 := by simpa using hj
      subst this
      exact hW)
  generalize frameR p = F at *
  go_wp2_with fail
  clear d1 d2 hne hk hp hp500 hl a0 a1
  have hka : (0 : Int) ≤ (k : Int) := by omega
  have hkb : (k : Int) ≤ (F.size : Int) := by omega
  have hkc : (k : Int) < (F.size : Int) := by omega
  have hkd : (0 : Int) ≤ (k : Int) + 1 := by omega
  have hke : (k : Int) + 1 ≤ (F.size : Int) := by omega
  have hks : ((k : Int) + 1).toNat = k + 1 := by omega
  have ha1 : ∀ W : World, Sem.run Tryd.prog (Op.stringOp .add (F.extract 0 k) ⟨#[X]⟩) W = .ok (.string (F.extract 0 k ++ ⟨#[X]⟩)) W := fun W => run_string_add_sum W _ _ (by rw [hz1]; show k + 1 ≤ _; omega)
  have ha2 : ∀ W : World, Sem.run Tryd.prog (Op.stringOp .add (F.extract 0 k ++ ⟨#[X]⟩) (F.extract (k + 1) F.size)) W = .ok (.string (F.extract 0 k ++ ⟨#[X]⟩ ++ F.extract (k + 1) F.size)) W := fun W => run_string_add_sum W _ _ (by rw [ByteArray.size_append, hz1, ByteArray.size_extract]; show k + 1 + _ ≤ _; omega)
  have HZZ : Hid ((F.extract 0 k ++ ⟨#[X]⟩ ++ F.extract (k + 1) F.size).size ≤ 4611686018427387904) := by
    show _ ≤ _
    rw [ByteArray.size_append, ByteArray.size_append, hz1, ByteArray.size_extract]; show k + 1 + _ ≤ _; omega
  have HTx : Hid (∀ W' : World, Below w2.heap.size w2 W' → TabAt W') := fun W' h => HT2.out.below h
  go_region_with (go_at_call 17; refine (unf_tup _ _ _ ?_ ?_).mono ?_; (exact HZZ.out); (exact HTx.out _ (((Below.refl _ _).drew.alloc (Nat.le_refl _) _))); rintro e w' ⟨rfl, rfl⟩)
  rw [HG.out]
  generalize (unfR (F.extract 0 k ++ ⟨#[X]⟩ ++ F.extract (k + 1) F.size) 0).1 = r1
  generalize (unfR (F.extract 0 k ++ ⟨#[X]⟩ ++ F.extract (k + 1) F.size) 0).2.1 = r2
  clear ha1 ha2 hcv HX
  go_wp2_with fail
  refine (unf_tup _ _ _ (by rw [hz1]; omega) (HTx.out _ ((Below.refl _ _).drew.alloc (Nat.le_refl _) _))).mono ?_
  rintro e w' ⟨rfl, rfl⟩
  rw [HC.out]
  generalize (unfR (F.extract 0 k) 0).1 = r3
  generalize (unfR (F.extract 0 k) 0).2.1 = r4
  go_wp2_with fail
  refine (unf_tup _ _ _ (by omega) (HTx.out _ ((Below.refl _ _).drew.alloc (Nat.le_refl _) _))).mono ?_
  rintro e w' ⟨rfl, rfl⟩
  rw [HU.out]
  have hll : ((p.size : Int) + 8 == (F.size : Int)) = true := by rw [HFZ.out]; simp
  go_wp2
  go_ret
  exact ⟨rfl, HBw.out.trans (((Below.refl _ _).drew.alloc (Nat.le_refl _) _).mono HBw.out.size)⟩
end Go.Proofs.YtccepdbglgpniaaDoor
