/- the walk of the reference's Encode -/
import Derived.Test.YtoceglomogcgcaaDoorRfPage
import Derived.Test.YtoceglomogcgcaaDoorRfSum
import Derived.Deep.RegionWith
namespace Go.Proofs.YtoceglomogcgcaaDoor
open Go.RowKit

/-- a cell's bytes -/
def clL (c : Cl) : List UInt8 := leL (if c.set then (c.data.size : Int) else 255) 1 ++ (c.data.data.toList ++ List.replicate (12 - c.data.size) 0)
def headL (p : Pg) : List UInt8 := leL p.lsn 8 ++ leL p.id 4
def cellsL (l : List Cl) : List UInt8 := l.flatMap clL
def bodyL (p : Pg) : List UInt8 := headL p ++ cellsL p.cells ++ List.replicate 24 0
/-- a page's bytes -/
def encL (p : Pg) : List UInt8 := bodyL p ++ leL (Crc.sum (bodyL p)).toNat 4 ++ leL p.lsn 8
def ofL (l : List UInt8) : ByteArray := ⟨l.toArray⟩
theorem ofL_list (l : List UInt8) : (ofL l).data.toList = l := by simp [ofL]
theorem ofL_size (l : List UInt8) : (ofL l).size = l.length := by show l.toArray.size = l.length; simp
def encR (p : Pg) : ByteArray × Int := if checkR p = 0 then (ofL (encL p), 0) else (⟨#[]⟩, checkR p)
theorem clL_length (c : Cl) (h : c.data.size ≤ 12) : (clL c).length = 13 := by
  unfold clL
  rw [List.length_append, List.length_append, leL_length, size_list, List.length_replicate]; omega
theorem cellsL_length : ∀ (l : List Cl), (∀ c ∈ l, c.data.size ≤ 12) → (cellsL l).length = 13 * l.length
  | [], _ => rfl
  | c :: l, h => by
    show (clL c ++ cellsL l).length = _
    rw [List.length_append, clL_length c (h c (List.mem_cons_self ..)), cellsL_length l (fun x hx => h x (List.mem_cons_of_mem _ hx)), List.length_cons]; omega
theorem headL_length (p : Pg) : (headL p).length = 12 := by unfold headL; rw [List.length_append, leL_length, leL_length]
theorem small_of_check {p : Pg} (h : checkR p = 0) : ∀ c ∈ p.cells, c.data.size ≤ 12 := by
  intro c hc
  unfold checkR at h
  by_cases hn : numB p = false
  · rw [if_pos hn] at h; exact absurd h (by decide)
  · rw [if_neg hn] at h
    by_cases hq : cellsB p = false
    · rw [if_pos hq] at h; exact absurd h (by decide)
    · have : cellsB p = true := by simpa using hq
      unfold cellsB at this
      rw [List.all_eq_true] at this
      have := this c hc
      unfold cellB cellOkB at this
      simp at this
      exact this.1.1

theorem putR_list (s : ByteArray) (n : Int) (k : Nat) (h1 : 1 ≤ k) (h8 : k ≤ 8) : putR s n k = ofL (s.data.toList ++ leL n k) := by
  unfold putR
  rw [if_neg (by omega)]
  apply str_eq
  rw [str_app, ofL_list]
  simp [leS]
theorem head_put (p : Pg) : putR (putR ⟨#[]⟩ p.lsn 8) p.id 4 = ofL (headL p) := by
  have e8 : putR ⟨#[]⟩ p.lsn 8 = ofL (leL p.lsn 8) := putR_list ⟨#[]⟩ p.lsn 8 (by decide) (by decide)
  rw [e8]
  have e4 := putR_list (ofL (leL p.lsn 8)) p.id 4 (by decide) (by decide)
  rw [ofL_list] at e4
  exact e4

theorem cell_str {S T d : ByteArray} {N : Int} {m : Nat} {c : Cl} (hT : T = ofL (S.data.toList ++ leL N 1)) (hm : m = 12 - d.size) (hc : clL c = leL N 1 ++ (d.data.toList ++ List.replicate (12 - d.size) 0)) :
    T ++ (d ++ zeroS m) = ofL (S.data.toList ++ clL c) := by
  apply str_eq
  rw [str_app, str_app, ofL_list, hT, ofL_list, hc, hm, List.append_assoc]
  simp [zeroS]
theorem ret_val {a b : Value} (h : a = b) : Ending.returned a = .returned b := by rw [h]

set_option maxHeartbeats 4000000 in
theorem rencode (p : Pg) (w : World) (hl : p.cells.length = 16) (hs : ∀ c ∈ p.cells, c.data.size ≤ maxLen) :
    Calls Tryd.prog 16 #[pgV p] w fun e w' => e = .returned (.tuple #[.string (encR p).1, .int .i64 (encR p).2]) ∧ Below w.heap.size w w' := by
  have HC : Hid (∀ w' : World, Calls Tryd.prog 39 #[.agg (pgCells p).toArray] w' fun e w'' => e = .returned (.int .i64 (checkR p)) ∧ Below w'.heap.size w' w'') := fun w' => rcheck p w' hl hs
  have HZ : Hid ((pgCells p).toArray.size = 34) := by show _ = _; rw [List.size_toArray, pgCells_length, hl]
  have HL := Lib.hid hl
  have HA := Lib.hid (pgAt_alloc w p 27)
  clear hl hs
  unfold pgV
  generalize (pgCells p).toArray = C at *
  have HG1 : Hid ((w.alloc (.cells C 27)).heap[w.heap.size]? = some (.cells C 27 (0, 0))) := heap_alloc_last w _
  have HBw : Hid (Below w.heap.size w (w.alloc (.cells C 27))) := (Below.refl _ _).alloc (Nat.le_refl _) _
  obtain ⟨fs, hu⟩ := under_page
  have HU := Lib.hid hu
  clear hu
  go_enter Tryd.func16, Tryd.ntmps16
  go_wp2_with (refine wpList_load_row rfl 27 _ rfl w.heap.size rfl 27 C (0, 0) _ HG1.out HU.out rfl (by rw [HZ.out]; exact info_page) ?_)
  refine (HC.out _).mono ?_
  rintro e w2 ⟨rfl, hb1⟩
  have HB1 : Hid (Below (w.heap.size + 1) (w.alloc (.cells C 27)) w2) := hb1.mono (by simp)
  clear hb1
  by_cases hc : checkR p = 0
  · have HSm := Lib.hid (small_of_check hc)
    have HE : Hid (encR p = (ofL (encL p), 0)) := if_pos hc
    have hA := HA.out.below HB1.out (Nat.lt_succ_self _)
    have c0 := hA.1
    have c1 := hA.2.1
    clear hA
    rw [hc]
    clear hc
    go_wp2_with fail
    refine (rput_any _ _ _ _ (by decide)).mono ?_
    rintro e w3 ⟨rfl, hb3⟩
    have HB3 : Hid (Below (w.heap.size + 1) (w.alloc (.cells C 27)) w3) := HB1.out.trans (hb3.mono (by have := HB1.out.size; rw [World.size_alloc] at this; exact this))
    clear hb3 c0 c1
    have hA := HA.out.below HB3.out (Nat.lt_succ_self _)
    have c0 := hA.1
    have c1 := hA.2.1
    clear hA
    go_wp2_with fail
    have hz8 : (putR ⟨#[]⟩ p.lsn 8).size ≤ 100 := by
      have e8 : putR ⟨#[]⟩ p.lsn 8 = ofL (leL p.lsn 8) := putR_list ⟨#[]⟩ p.lsn 8 (by decide) (by decide)
      rw [e8, ofL_size, leL_length]; omega
    refine (rput_any _ _ _ _ (by omega)).mono ?_
    rintro e w4 ⟨rfl, hb4⟩
    have HB4 : Hid (Below (w.heap.size + 1) (w.alloc (.cells C 27)) w4) := HB3.out.trans (hb4.mono (by have := HB3.out.size; rw [World.size_alloc] at this; exact this))
    clear hb4 c0 c1
    rw [head_put]
    have hh : (ofL (headL p)).size = 12 := by rw [ofL_size, headL_length]
    generalize hS0 : ofL (headL p) = S0 at hh ⊢
    have HS0 := Lib.hid hS0
    clear hS0 hz8
    generalize putR ⟨#[]⟩ p.lsn 8 = S8
    go_wp2_with fail
    go_loopw [5, 6, 7] (fun t i _ wr => ∃ k : Nat, k ≤ 16 ∧ i = .int .i64 k ∧ t = .string (ofL (headL p ++ cellsL (p.cells.take k))) ∧ Below (w.heap.size + 1) (w.alloc (.cells C 27)) wr) (fun _ i _ _ => 16 - (intOf i).toNat)
    case atStart => exact ⟨0, by omega, rfl, by rw [← HS0.out]; simp [cellsL], HB4.out⟩
    case round =>
      obtain ⟨k, hk, rfl, rfl, hbr⟩ := hrel
      have HBr := Lib.hid hbr
      clear hbr
      by_cases hlt : k < 16
      · have hkl : k < p.cells.length := by rw [HL.out]; exact hlt
        have hA := HA.out.below HBr.out (Nat.lt_succ_self _)
        obtain ⟨cs, cd⟩ := hA.2.2 k hkl
        have hds := HSm.out p.cells[k] (List.getElem_mem hkl)
        have hlen : (ofL (headL p ++ cellsL (p.cells.take k))).size = 12 + 13 * k := by
          rw [ofL_size, List.length_append, headL_length, cellsL_length _ (fun c hc => HSm.out c (List.mem_of_mem_take hc)), List.length_take, HL.out]
          omega
        have HT : Hid (ofL (headL p ++ cellsL (p.cells.take (k + 1))) = ofL ((ofL (headL p ++ cellsL (p.cells.take k))).data.toList ++ clL p.cells[k])) := by
          show _ = _
          rw [ofL_list, List.take_succ_eq_append_getElem hkl, List.append_assoc]
          congr 2
          unfold cellsL
          rw [List.flatMap_append]
          simp
        clear hA
        have hss : (ofL (headL p ++ cellsL (p.cells.take k))).size ≤ 220 := by omega
        clear hlen
        generalize ofL (headL p ++ cellsL (p.cells.take k)) = S at *
        generalize p.cells[k] = c at *
        obtain ⟨st, d⟩ := c
        simp only at cs cd hds
        have hdi : (d.size : Int) ≤ 12 := by omega
        cases st
        · go_wp2_with fail
          refine (rput_any _ _ _ _ (by omega)).mono ?_
          rintro e w5 ⟨rfl, hb5⟩
          have cd5 : w5.cell? ⟨w.heap.size, 2 + k * 2 + 1, none⟩ = some (.string d) := by rw [hb5.cell (p := ⟨w.heap.size, 2 + k * 2 + 1, none⟩) (Nat.lt_of_lt_of_le (Nat.lt_succ_self _) (by have := HBr.out.size; rw [World.size_alloc] at this; exact this))]; exact cd
          have HB5 : Hid (Below (w.heap.size + 1) (w.alloc (.cells C 27)) w5) := HBr.out.trans (hb5.mono (by have := HBr.out.size; rw [World.size_alloc] at this; exact this))
          clear hb5 cs cd
          go_wp2_with fail
          obtain ⟨m, hm⟩ : ∃ m : Nat, IntKind.i64.wrap (12 - (d.size : Int)) = (m : Int) := ⟨12 - d.size, by rw [IntWalk.i64_in _ (by omega)]; omega⟩
          have hm12 : m = 12 - d.size := by rw [IntWalk.i64_in _ (by omega)] at hm; omega
          have HM := Lib.hid hm12
          have hmm : m ≤ 12 := by omega
          clear hm12
          have hT1 : (putR S 255 1).size ≤ 221 := by
            have e1 : putR S 255 1 = ofL (S.data.toList ++ leL 255 1) := putR_list S 255 1 (by decide) (by decide)
            rw [e1, ofL_size, List.length_append, leL_length, size_list]; omega
          have HT1 : Hid (putR S 255 1 = ofL (S.data.toList ++ leL 255 1)) := putR_list S 255 1 (by decide) (by decide)
          generalize putR S 255 1 = T at *
          have hzz := zeroS_size m
          have ha1 : ∀ W : World, Sem.run Tryd.prog (Op.stringOp .add d (zeroS m)) W = .ok (.string (d ++ zeroS m)) W := fun W => run_string_add_sum W _ _ (by omega)
          have ha2 : ∀ W : World, Sem.run Tryd.prog (Op.stringOp .add T (d ++ zeroS m)) W = .ok (.string (T ++ (d ++ zeroS m))) W := fun W => run_string_add_sum W _ _ (by rw [ByteArray.size_append]; omega)
          clear hzz
          have HSZ : Hid (w.heap.size + 1 ≤ w5.heap.size) := by show _ ≤ _; have := HB5.out.size; rw [World.size_alloc] at this; exact this
          go_region_with (go_at_call 41; refine (rzeros m _ (by omega)).mono ?_; rintro e w6 ⟨rfl, hb6⟩; have cd6 : w6.cell? ⟨w.heap.size, 2 + k * 2 + 1, none⟩ = some (.string d) := (by rw [hb6.cell (p := ⟨w.heap.size, 2 + k * 2 + 1, none⟩) HSZ.out]; exact cd5); have HB6 := Lib.hid (HB5.out.trans ((Below.refl _ _).drew.trans (hb6.mono HSZ.out))); clear hb6)
          all_goals go_wp2
          all_goals go_roundw
          case rel => exact ⟨k + 1, by omega, by go_num, by rw [HT.out, cell_str (c := ⟨false, d⟩) HT1.out HM.out rfl], HB6.out⟩
          case rel => exact ⟨k + 1, by omega, by go_num, by rw [HT.out, cell_str (c := ⟨false, d⟩) HT1.out HM.out rfl], HB6.out⟩
          case rel => exact ⟨k + 1, by omega, by go_num, by rw [HT.out, cell_str (c := ⟨false, d⟩) HT1.out HM.out rfl], HB6.out⟩
          all_goals simp [intOf]
          all_goals omega
        · go_wp2_with fail
          refine (rput_any _ _ _ _ (by omega)).mono ?_
          rintro e w5 ⟨rfl, hb5⟩
          have cd5 : w5.cell? ⟨w.heap.size, 2 + k * 2 + 1, none⟩ = some (.string d) := by rw [hb5.cell (p := ⟨w.heap.size, 2 + k * 2 + 1, none⟩) (Nat.lt_of_lt_of_le (Nat.lt_succ_self _) (by have := HBr.out.size; rw [World.size_alloc] at this; exact this))]; exact cd
          have HB5 : Hid (Below (w.heap.size + 1) (w.alloc (.cells C 27)) w5) := HBr.out.trans (hb5.mono (by have := HBr.out.size; rw [World.size_alloc] at this; exact this))
          clear hb5 cs cd
          go_wp2_with fail
          obtain ⟨m, hm⟩ : ∃ m : Nat, IntKind.i64.wrap (12 - (d.size : Int)) = (m : Int) := ⟨12 - d.size, by rw [IntWalk.i64_in _ (by omega)]; omega⟩
          have hm12 : m = 12 - d.size := by rw [IntWalk.i64_in _ (by omega)] at hm; omega
          have HM := Lib.hid hm12
          have hmm : m ≤ 12 := by omega
          clear hm12
          have hT1 : (putR S (d.size : Int) 1).size ≤ 221 := by
            have e1 : putR S (d.size : Int) 1 = ofL (S.data.toList ++ leL (d.size : Int) 1) := putR_list S (d.size : Int) 1 (by decide) (by decide)
            rw [e1, ofL_size, List.length_append, leL_length, size_list]; omega
          have HT1 : Hid (putR S (d.size : Int) 1 = ofL (S.data.toList ++ leL (d.size : Int) 1)) := putR_list S (d.size : Int) 1 (by decide) (by decide)
          generalize putR S (d.size : Int) 1 = T at *
          have hzz := zeroS_size m
          have ha1 : ∀ W : World, Sem.run Tryd.prog (Op.stringOp .add d (zeroS m)) W = .ok (.string (d ++ zeroS m)) W := fun W => run_string_add_sum W _ _ (by omega)
          have ha2 : ∀ W : World, Sem.run Tryd.prog (Op.stringOp .add T (d ++ zeroS m)) W = .ok (.string (T ++ (d ++ zeroS m))) W := fun W => run_string_add_sum W _ _ (by rw [ByteArray.size_append]; omega)
          clear hzz
          have HSZ : Hid (w.heap.size + 1 ≤ w5.heap.size) := by show _ ≤ _; have := HB5.out.size; rw [World.size_alloc] at this; exact this
          go_region_with (go_at_call 41; refine (rzeros m _ (by omega)).mono ?_; rintro e w6 ⟨rfl, hb6⟩; have cd6 : w6.cell? ⟨w.heap.size, 2 + k * 2 + 1, none⟩ = some (.string d) := (by rw [hb6.cell (p := ⟨w.heap.size, 2 + k * 2 + 1, none⟩) HSZ.out]; exact cd5); have HB6 := Lib.hid (HB5.out.trans ((Below.refl _ _).drew.trans (hb6.mono HSZ.out))); clear hb6)
          all_goals go_wp2
          all_goals go_roundw
          case rel => exact ⟨k + 1, by omega, by go_num, by rw [HT.out, cell_str (c := ⟨true, d⟩) HT1.out HM.out rfl], HB6.out⟩
          case rel => exact ⟨k + 1, by omega, by go_num, by rw [HT.out, cell_str (c := ⟨true, d⟩) HT1.out HM.out rfl], HB6.out⟩
          case rel => exact ⟨k + 1, by omega, by go_num, by rw [HT.out, cell_str (c := ⟨true, d⟩) HT1.out HM.out rfl], HB6.out⟩
          all_goals simp [intOf]
          all_goals omega
      · obtain rfl : k = 16 := by omega
        have hfull : p.cells.take 16 = p.cells := List.take_of_length_le (by rw [HL.out]; omega)
        rw [hfull]
        clear hfull
        have hlen : (ofL (headL p ++ cellsL p.cells)).size = 220 := by
          rw [ofL_size, List.length_append, headL_length, cellsL_length _ HSm.out, HL.out]
        have HLEN := Lib.hid hlen
        have hl220 : (ofL (headL p ++ cellsL p.cells)).size ≤ 220 := by omega
        have hl24 : (244 : Int) - ((ofL (headL p ++ cellsL p.cells)).size : Int) = ((24 : Nat) : Int) := by omega
        have HO : Hid ((ofL (headL p ++ cellsL p.cells)).data.toList = headL p ++ cellsL p.cells) := ofL_list _
        generalize ofL (headL p ++ cellsL p.cells) = S at *
        go_wp2_with fail
        refine (rzeros 24 _ (by omega)).mono ?_
        rintro e w5 ⟨rfl, hb5⟩
        have hwr : w.heap.size + 1 ≤ wr.heap.size := by have := HBr.out.size; rw [World.size_alloc] at this; exact this
        have HB5 : Hid (Below (w.heap.size + 1) (w.alloc (.cells C 27)) w5) := HBr.out.trans (hb5.mono hwr)
        clear hb5 hwr
        have ha1 : ∀ W : World, Sem.run Tryd.prog (Op.stringOp .add S (zeroS 24)) W = .ok (.string (S ++ zeroS 24)) W := fun W => run_string_add_sum W _ _ (by rw [zeroS_size]; omega)
        have HBD : Hid (S ++ zeroS 24 = ofL (bodyL p)) := by
          show _ = _
          apply str_eq
          rw [str_app, HO.out, ofL_list, bodyL]
          simp [zeroS]
        have hb244 : (S ++ zeroS 24).size ≤ 244 := by rw [ByteArray.size_append, zeroS_size]; omega
        generalize S ++ zeroS 24 = Bd at *
        clear hl24
        go_wp2_with fail
        refine (rsum_any Bd _ (by unfold maxLen; omega)).mono ?_
        rintro e w6 ⟨rfl, rfl⟩
        have hs0 := (Crc.sum Bd.data.toList).isLt
        have hs1 : (Crc.sum Bd.data.toList).toNat ≤ 4294967295 := by omega
        clear hs0
        have HSUM : Hid ((Crc.sum Bd.data.toList).toNat = (Crc.sum (bodyL p)).toNat) := by show _ = _; rw [HBD.out, ofL_list]
        generalize (Crc.sum Bd.data.toList).toNat = q at *
        go_wp2_with fail
        refine (rput_any _ _ _ _ (by omega)).mono ?_
        rintro e w6 ⟨rfl, hb6⟩
        have hw5 : w.heap.size + 1 ≤ w5.heap.size := by have := HB5.out.size; rw [World.size_alloc] at this; exact this
        have HB6 : Hid (Below (w.heap.size + 1) (w.alloc (.cells C 27)) w6) := HB5.out.trans (hb6.mono hw5)
        clear hb6 hw5 ha1
        have HP4 : Hid (putR Bd q 4 = ofL (bodyL p ++ leL q 4)) := by
          show _ = _
          have e4 := putR_list Bd q 4 (by decide) (by decide)
          rw [HBD.out, ofL_list] at e4
          rw [HBD.out]
          exact e4
        have hz4 : (putR Bd q 4).size ≤ 4096 := by
          have e4 : putR Bd q 4 = ofL (Bd.data.toList ++ leL q 4) := putR_list Bd q 4 (by decide) (by decide)
          rw [e4, ofL_size, List.length_append, leL_length, size_list]; omega
        have c1 := (HA.out.below HB6.out (Nat.lt_succ_self _)).2.1
        generalize putR Bd q 4 = P4 at *
        go_wp2_with fail
        refine (rput_any _ _ _ _ (by omega)).mono ?_
        rintro e w7 ⟨rfl, hb7⟩
        have hw6 : w.heap.size + 1 ≤ w6.heap.size := by have := HB6.out.size; rw [World.size_alloc] at this; exact this
        have HB7 : Hid (Below w.heap.size w w7) := HBw.out.trans ((HB6.out.trans (hb7.mono hw6)).mono (by omega))
        clear hb7 hw6
        have HP8 : Hid (putR P4 p.lsn 8 = ofL (encL p)) := by
          show _ = _
          have e8 := putR_list P4 p.lsn 8 (by decide) (by decide)
          rw [HP4.out, ofL_list, HSUM.out] at e8
          rw [HP4.out, HSUM.out]
          exact e8
        generalize putR P4 p.lsn 8 = P8 at *
        go_wp2_with fail
        go_ret2
        exact ⟨by rw [HE.out, ← HP8.out]; rfl, HB7.out⟩
  · have HE : Hid (encR p = (⟨#[]⟩, checkR p)) := if_neg hc
    have hcb : (checkR p != 0) = true := by rw [bne_iff_ne]; exact hc
    have HB2 : Hid (Below w.heap.size w w2) := HBw.out.trans (HB1.out.mono (by omega))
    clear hc
    go_wp2_with fail
    go_ret2
    exact ⟨by rw [HE.out]; rfl, HB2.out⟩
end Go.Proofs.YtoceglomogcgcaaDoor
