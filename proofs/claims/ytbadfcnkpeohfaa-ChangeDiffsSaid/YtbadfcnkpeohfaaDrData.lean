/- the choices of the drawing package: Data -/
import Derived.Test.YtbadfcnkpeohfaaDrNext
import Derived.Test.YtbadfcnkpeohfaaNum
import Derived.WalkKit
import Derived.Deep.RegionWith
namespace Go.Proofs.Ytbadfcnkpeohfaa
open Go.RowKit

/-- what Data leaves: some short text -/
def DataPost (C : Nat) (w : World) (e : Ending) (w' : World) : Prop :=
  ∃ s : ByteArray, e = .returned (.string s) ∧ s.size ≤ 13 ∧ Besides C w w' ∧ CodesOk w' C
theorem info_byte' : ∃ i, Try.prog.info? 5 = some i ∧ i.zero = some (.int .u8 0) ∧ i.size = 1 ∧ i.bytes = 1 := ⟨_, rfl, rfl, rfl, rfl⟩
/-- a row of bytes of the call's own is read as a text -/
theorem conv_own (W : World) (base : Nat) (v : Value) (l : List UInt8) (h : W.ownsRow base 5 1 v l.length (l.map (fun b => Value.int .u8 (b.toNat : Int)))) (hv : v ≠ .slice none 0 0) :
    Sem.run Try.prog (convert 22 9 v) W = .ok (.string ⟨l.toArray⟩) W := by
  rcases h.2 with ⟨h1, _⟩ | ⟨g, cap, cur, rfl, _, hg, _⟩
  · exact absurd h1 hv
  · refine run_convert_bytes_back (P := Try.prog) W 22 9 5 ⟨g, 0, none⟩ cap l Try.underlying22 Try.underlying5 Try.underlying9 (fun j hj => ?_)
    exact h.cells rfl j _ (by rw [List.getElem?_map, List.getElem?_eq_getElem hj]; rfl)

theorem Besides.of_grown {C : Nat} {w w' : World} (h : w.grownBy w' none) : Besides C w w' := ⟨h.os, h.tape, h.output, h.size, fun k hk _ => h.block k hk (by simp), fun hC => World.cell?_of_block (a := ⟨C, 0, none⟩) (h.block C hC (by simp))⟩
theorem Below.of_grown {w w' : World} (h : w.grownBy w' none) : Below w.heap.size w w' := ⟨h.os, h.tape, h.output, h.size, fun k hk => h.block k hk (by simp)⟩

theorem Besides.grown {C : Nat} {a w w' : World} {row : Option Nat} (h : Besides C a w) (hg : w.grownBy w' row) (hr : ∀ k, row = some k → a.heap.size ≤ k) : Besides C a w' :=
  ⟨hg.os.trans h.os, hg.tape.trans h.tape, hg.output.trans h.output, Nat.le_trans h.size hg.size, fun k hk hC => (hg.block k (Nat.lt_of_lt_of_le hk h.size) (fun e => by have := hr k e.symm; omega)).trans (h.block k hk hC),
    fun hC => (World.cell?_of_block (a := ⟨C, 0, none⟩) (hg.block C (Nat.lt_of_lt_of_le hC h.size) (fun e => by have := hr C e.symm; omega))).trans (h.head hC)⟩
theorem own_lt {B : Nat} {W : World} {e : TypeId} {z n : Nat} {v : Value} {xs : List Value} (h : W.ownsRow B e z v n xs) (hv : v ≠ .slice none 0 0) : B < W.heap.size := by
  rcases h.2 with ⟨h1, _⟩ | ⟨g, cap, cur, rfl, hB, hg, _⟩
  · exact absurd h1 hv
  · have := (Array.getElem?_eq_some_iff.1 hg).1; omega
theorem own_besides {B C : Nat} {W W' : World} {e : TypeId} {z n : Nat} {v : Value} {xs : List Value} (h : W.ownsRow B e z v n xs) (hb : Besides C W W') (hC : C < B) : W'.ownsRow B e z v n xs :=
  h.kept (row := some C) ⟨hb.os, hb.tape, hb.output, hb.size, fun k hk hne => hb.block k hk (by intro e; exact hne (by rw [e]))⟩ (by
    cases hv : v.ownBlock with
    | none => exact .inl rfl
    | some k => right; intro e; injection e with e; have := (h.lt k hv).1; omega)

set_option maxHeartbeats 1000000 in
theorem data_any (C : Nat) (w : World) (h : CodesOk w C) :
    Calls Try.prog 30 #[.pointer (some ⟨C, 0, none⟩)] w (DataPost C w) := by
  have HK := Lib.hid h
  clear h
  obtain ⟨i0, hi, hz0, hz1, hz2⟩ := info_byte'
  go_enter Try.func30, Try.ntmps30
  go_wp2_with fail
  refine (next_any C 5 _ HK.out (by omega)).mono ?_
  rintro e w2 ⟨n, rfl, n0, n1, hb2, hc2⟩
  have HB2 := Lib.hid hb2
  have HC2 := Lib.hid hc2
  clear hb2 hc2
  go_wp2_with fail
  refine (next_any C 6 _ HC2.out (by omega)).mono ?_
  rintro e w3 ⟨m, rfl, m0, m1, hb3, hc3⟩
  have HB3 := Lib.hid (HB2.out.trans hb3)
  have HC3 := Lib.hid hc3
  clear m1 hb3 hc3
  by_cases h0 : m = 0
  · have h0b : (m == 0) = true := by rw [h0]; rfl
    clear h0
    go_wp2_with fail
    refine (next_any C 14 _ HC3.out (by omega)).mono ?_
    rintro e w4 ⟨x, rfl, x0, x1, hb4, hc4⟩
    obtain ⟨n, rfl⟩ := Int.eq_ofNat_of_zero_le x0
    have hn : n ≤ 13 := by omega
    clear x1 x0
    have HB4 := Lib.hid (HB3.out.trans hb4)
    have HC4 := Lib.hid hc4
    clear hb4 hc4
    go_wp2_with (refine wpList_make_own _ rfl _ _ 22 rfl w4.heap.size 5 i0 (.int .u8 0) 1 Try.underlying22 hi hz0 hz1 .i64 .i64 _ n rfl rfl rfl ?m1 ?m2 ?m3 ?_)
    case m1 => rw [hz2]; omega
    case m2 => unfold maxLen; omega
    case m3 => exact Nat.le_refl _
    intro w5 hown5 hgr5
    have HB5 : Hid (Besides C w w5) := HB4.out.trans (Besides.of_grown hgr5)
    have HC5 : Hid (CodesOk w5 C) := HC4.out.below (Below.of_grown hgr5) HC4.out.lt
    have HBw : Hid (w.heap.size ≤ w4.heap.size) := HB4.out.size
    have HCB : Hid (C < w4.heap.size) := HC4.out.lt
    have HO5 := Lib.hid hown5
    clear hown5 hgr5
    generalize w4.heap.size = B at *
    go_wp2_with fail
    go_loopw [4, 5] (fun v i wr => ∃ (k : Nat) (l : List UInt8), k ≤ n ∧ i = .int .i64 k ∧ l.length = k ∧ v ≠ .slice none 0 0 ∧ wr.ownsRow B 5 1 v l.length (l.map (fun b => Value.int .u8 (b.toNat : Int))) ∧ Besides C w wr ∧ CodesOk wr C) (fun _ i _ => n - (intOf i).toNat)
    case atStart => exact ⟨0, [], by omega, rfl, rfl, by simp, HO5.out, HB5.out, HC5.out⟩
    case round =>
      obtain ⟨k, l, hk, rfl, hl, hv, hown, hbr, hcr⟩ := hrel
      have HV := Lib.hid hv
      have HO := Lib.hid hown
      have HBr := Lib.hid hbr
      have HCr := Lib.hid hcr
      have HL := Lib.hid hl
      clear hv hown hbr hcr hl
      by_cases hlt : (k : Int) < (n : Int)
      · go_wp2_with fail
        refine (next_any C 3 _ HCr.out (by omega)).mono ?_
        rintro e w6 ⟨x, rfl, x0, x1, hb6, hc6⟩
        have x2 : x ≤ 2 := by omega
        have HO6 := Lib.hid (own_besides HO.out hb6 HCB.out)
        have HB6 := Lib.hid (HBr.out.trans hb6)
        have HC6 := Lib.hid hc6
        have hwa : IntKind.i64.wrap (97 + x) = 97 + x := IntWalk.i64_in _ (by omega)
        have hwb : IntKind.u8.wrap (97 + x) = 97 + x := IntWalk.u8_in _ (by omega)
        have HX : Hid (Value.int .u8 (97 + x) = Value.int .u8 (((UInt8.ofNat (97 + x).toNat).toNat : Nat) : Int)) := by
          show _ = _
          rw [UInt8.toNat_ofNat', show (((97 + x).toNat % 2 ^ 8 : Nat) : Int) = 97 + x from by omega]
        clear x1 hb6 hc6
        go_wp2_with (at_builtin; refine wpList_append_own _ rfl _ _ 22 rfl B 5 i0 (.int .u8 0) 1 1 Try.underlying22 hi hz0 hz1 hz2 rfl (by decide) _ _ _ rfl (HO6.out.alloc _) ⟨w6.heap.size, 0, none⟩ 1 1 [.int .u8 (97 + x)] rfl rfl ?c1 ?c2 ?c3 ?c4 ?c5 ?_)
        case c1 =>
          intro j u hj
          match j, hj with
          | 0, hj => simp at hj; subst hj; simp [Addr.add]
        case c2 => intro u hu; simp at hu; subst hu; rfl
        case c3 => have := HL.out; unfold maxLen; omega
        case c4 => have := HL.out; omega
        case c5 => have := own_lt HO6.out HV.out; simp; omega
        intro v' w7 hown7 hgr7 hnil7
        have HO7 : Hid (w7.ownsRow B 5 1 v' (l ++ [UInt8.ofNat (97 + x).toNat]).length ((l ++ [UInt8.ofNat (97 + x).toNat]).map (fun b => Value.int .u8 (b.toNat : Int)))) := by
          show World.ownsRow _ _ _ _ _ _ _
          rw [List.length_append, List.map_append, List.map_singleton, ← HX.out]
          exact hown7
        have HV7 : Hid (v' ≠ .slice none 0 0) := fun e => by first | exact hnil7 e | exact HV.out (hnil7.1 e).1
        have HB7 : Hid (Besides C w w7) := (HB6.out.alloc _).grown hgr7 (fun k hk => Nat.le_trans HBw.out (HO6.out.lt k hk).1)
        have HC7 : Hid (CodesOk w7 C) := (HC6.out.below ((Below.refl _ _).alloc (Nat.le_refl _) _) HC6.out.lt).below (B := C + 1) ((Below.refl _ _).grown hgr7 (by have := HC6.out.lt; simp; omega) (fun k hk => Nat.lt_of_lt_of_le HCB.out (HO6.out.lt k hk).1)) (Nat.lt_succ_self _)
        clear hown7 hgr7 hnil7
        have hkw : IntKind.i64.wrap ((k : Int) + 1) = (k : Int) + 1 := IntWalk.i64_in _ (by omega)
        go_wp2_with fail
        go_roundw
        case rel => exact ⟨k + 1, _, by omega, rfl, by rw [List.length_append, HL.out]; rfl, HV7.out, HO7.out, HB7.out, HC7.out⟩
        case measure => simp [intOf]; omega
      · have hcv := conv_own _ _ _ _ HO.out HV.out
        go_wp2_with fail
        go_ret
        exact ⟨_, rfl, by show l.toArray.size ≤ 13; have := HL.out; simp; omega, HBr.out, HCr.out⟩
  · have h0b : (m == 0) = false := by rw [beq_eq_false_iff_ne]; exact h0
    clear h0
    obtain ⟨n, rfl⟩ := Int.eq_ofNat_of_zero_le n0
    have hn : n ≤ 13 := by omega
    clear n1 n0
    go_wp2_with (refine wpList_make_own _ rfl _ _ 22 rfl w3.heap.size 5 i0 (.int .u8 0) 1 Try.underlying22 hi hz0 hz1 .i64 .i64 _ n rfl rfl rfl ?m1 ?m2 ?m3 ?_)
    case m1 => rw [hz2]; omega
    case m2 => unfold maxLen; omega
    case m3 => exact Nat.le_refl _
    intro w5 hown5 hgr5
    have HB5 : Hid (Besides C w w5) := HB3.out.trans (Besides.of_grown hgr5)
    have HC5 : Hid (CodesOk w5 C) := HC3.out.below (Below.of_grown hgr5) HC3.out.lt
    have HBw : Hid (w.heap.size ≤ w3.heap.size) := HB3.out.size
    have HCB : Hid (C < w3.heap.size) := HC3.out.lt
    have HO5 := Lib.hid hown5
    clear hown5 hgr5
    generalize w3.heap.size = B at *
    go_wp2_with fail
    go_loopw [4, 5] (fun v i wr => ∃ (k : Nat) (l : List UInt8), k ≤ n ∧ i = .int .i64 k ∧ l.length = k ∧ v ≠ .slice none 0 0 ∧ wr.ownsRow B 5 1 v l.length (l.map (fun b => Value.int .u8 (b.toNat : Int))) ∧ Besides C w wr ∧ CodesOk wr C) (fun _ i _ => n - (intOf i).toNat)
    case atStart => exact ⟨0, [], by omega, rfl, rfl, by simp, HO5.out, HB5.out, HC5.out⟩
    case round =>
      obtain ⟨k, l, hk, rfl, hl, hv, hown, hbr, hcr⟩ := hrel
      have HV := Lib.hid hv
      have HO := Lib.hid hown
      have HBr := Lib.hid hbr
      have HCr := Lib.hid hcr
      have HL := Lib.hid hl
      clear hv hown hbr hcr hl
      by_cases hlt : (k : Int) < (n : Int)
      · go_wp2_with fail
        refine (next_any C 3 _ HCr.out (by omega)).mono ?_
        rintro e w6 ⟨x, rfl, x0, x1, hb6, hc6⟩
        have x2 : x ≤ 2 := by omega
        have HO6 := Lib.hid (own_besides HO.out hb6 HCB.out)
        have HB6 := Lib.hid (HBr.out.trans hb6)
        have HC6 := Lib.hid hc6
        have hwa : IntKind.i64.wrap (97 + x) = 97 + x := IntWalk.i64_in _ (by omega)
        have hwb : IntKind.u8.wrap (97 + x) = 97 + x := IntWalk.u8_in _ (by omega)
        have HX : Hid (Value.int .u8 (97 + x) = Value.int .u8 (((UInt8.ofNat (97 + x).toNat).toNat : Nat) : Int)) := by
          show _ = _
          rw [UInt8.toNat_ofNat', show (((97 + x).toNat % 2 ^ 8 : Nat) : Int) = 97 + x from by omega]
        clear x1 hb6 hc6
        go_wp2_with (at_builtin; refine wpList_append_own _ rfl _ _ 22 rfl B 5 i0 (.int .u8 0) 1 1 Try.underlying22 hi hz0 hz1 hz2 rfl (by decide) _ _ _ rfl (HO6.out.alloc _) ⟨w6.heap.size, 0, none⟩ 1 1 [.int .u8 (97 + x)] rfl rfl ?c1 ?c2 ?c3 ?c4 ?c5 ?_)
        case c1 =>
          intro j u hj
          match j, hj with
          | 0, hj => simp at hj; subst hj; simp [Addr.add]
        case c2 => intro u hu; simp at hu; subst hu; rfl
        case c3 => have := HL.out; unfold maxLen; omega
        case c4 => have := HL.out; omega
        case c5 => have := own_lt HO6.out HV.out; simp; omega
        intro v' w7 hown7 hgr7 hnil7
        have HO7 : Hid (w7.ownsRow B 5 1 v' (l ++ [UInt8.ofNat (97 + x).toNat]).length ((l ++ [UInt8.ofNat (97 + x).toNat]).map (fun b => Value.int .u8 (b.toNat : Int)))) := by
          show World.ownsRow _ _ _ _ _ _ _
          rw [List.length_append, List.map_append, List.map_singleton, ← HX.out]
          exact hown7
        have HV7 : Hid (v' ≠ .slice none 0 0) := fun e => by first | exact hnil7 e | exact HV.out (hnil7.1 e).1
        have HB7 : Hid (Besides C w w7) := (HB6.out.alloc _).grown hgr7 (fun k hk => Nat.le_trans HBw.out (HO6.out.lt k hk).1)
        have HC7 : Hid (CodesOk w7 C) := (HC6.out.below ((Below.refl _ _).alloc (Nat.le_refl _) _) HC6.out.lt).below (B := C + 1) ((Below.refl _ _).grown hgr7 (by have := HC6.out.lt; simp; omega) (fun k hk => Nat.lt_of_lt_of_le HCB.out (HO6.out.lt k hk).1)) (Nat.lt_succ_self _)
        clear hown7 hgr7 hnil7
        have hkw : IntKind.i64.wrap ((k : Int) + 1) = (k : Int) + 1 := IntWalk.i64_in _ (by omega)
        go_wp2_with fail
        go_roundw
        case rel => exact ⟨k + 1, _, by omega, rfl, by rw [List.length_append, HL.out]; rfl, HV7.out, HO7.out, HB7.out, HC7.out⟩
        case measure => simp [intOf]; omega
      · have hcv := conv_own _ _ _ _ HO.out HV.out
        go_wp2_with fail
        go_ret
        exact ⟨_, rfl, by show l.toArray.size ≤ 13; have := HL.out; simp; omega, HBr.out, HCr.out⟩
end Go.Proofs.Ytbadfcnkpeohfaa
