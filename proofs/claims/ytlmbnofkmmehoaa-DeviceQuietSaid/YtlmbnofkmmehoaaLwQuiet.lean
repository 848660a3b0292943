/- the law DeviceQuiet: for every input the call returns true -/
import Derived.Test.YtlmbnofkmmehoaaDvWq
import Derived.Test.YtlmbnofkmmehoaaDrLeft
namespace Go.Proofs.Ytlmbnofkmmehoaa
open Go.RowKit
set_option maxRecDepth 20000
set_option linter.unusedSimpArgs false
set_option linter.unusedVariables false

def stCells (l : List ByteArray) : List Value := l.map Value.string
theorem alloc_s4 (w : World) : Sem.run Try.prog (Instr.alloc 53 true (.tuple #[])) w = .ok (.pointer (some ⟨w.heap.size, 0, none⟩)) (w.alloc (.cells (stCells (List.replicate 4 ⟨#[]⟩)).toArray 53)) := by kernel_rfl
theorem stCells_at {l : List ByteArray} {k : Nat} {b : ByteArray} (h : l[k]? = some b) : (stCells l)[k]? = some (.string b) := by simp [stCells, h]
theorem stCells_set (l : List ByteArray) (k : Nat) (b : ByteArray) : (stCells l).set k (.string b) = stCells (l.set k b) := by simp [stCells, List.map_set]
theorem blank_row : ∃ (L : List Value), (∀ w : World, Sem.run Try.prog (Instr.makeSlice 22 (.int .i64 256) (.int .i64 256)) w = .ok (.slice (some ⟨w.heap.size, 0, none⟩) 256 256) (w.alloc (.cells L.toArray 5))) ∧
    (∀ (w : World), Sem.run Try.prog (convert 22 9 (.slice (some ⟨w.heap.size, 0, none⟩) 256 256)) (w.alloc (.cells L.toArray 5)) = .ok (.string blankPg) (w.alloc (.cells L.toArray 5))) := by
  refine ⟨(List.replicate 256 (0 : UInt8)).map (fun b => Value.int .u8 (b.toNat : Int)), fun w => ?_, fun w => ?_⟩
  · have hmk : Sem.run Try.prog (Instr.makeSlice 22 (.int .i64 256) (.int .i64 256)) w = .ok (.slice (some ⟨w.heap.size, 0, none⟩) 256 256) (w.alloc (.cells (madeCells #[.int .u8 0] 256) 5)) :=
      run_make_row' 22 5 (.int .u8 0) 1 Try.underlying22 info_byte rfl .i64 .i64 256 (by decide) (by decide) w
    rw [made_row] at hmk
    exact hmk
  · have hR : RowIn (w.alloc (.cells ((List.replicate 256 (0 : UInt8)).map (fun b => Value.int .u8 (b.toNat : Int))).toArray 5)) w.heap.size (List.replicate 256 (0 : UInt8)) := heap_alloc_last w _
    have hc := hR.conv 256 256 (len_rep 256).symm
    have e : (⟨(List.replicate 256 (0 : UInt8)).toArray⟩ : ByteArray) = blankPg := by unfold blankPg; rw [List.toArray_replicate]
    rw [e] at hc
    exact hc
/-- a device without faults, whose pages are these -/
structure Qui (n : Int) (d : Dv) (l : List ByteArray) : Prop where
  ok : DvOk d
  pg : d.pages = l
  len : l.length = 4
  un : d.unread = []
  dead : d.dead = false
  flt : d.faults = []
  wr : d.writes = n
theorem Qui.start : ∃ d, newR 4 = (d, 0) ∧ Qui 0 d (List.replicate 4 blankPg) := by
  obtain ⟨n1, n2⟩ := new_ok (n := 4) (by decide)
  exact ⟨_, n1, n2, rfl, List.length_replicate, rfl, rfl, rfl, rfl⟩
theorem Qui.step {n : Int} {d : Dv} {l : List ByteArray} (h : Qui n d l) (hn : n ≤ 1000) {p : Nat} (hp : p < 4) {s : ByteArray} (hs : s.size = 256) : ∃ x, writeR d p s = (x, 0) ∧ Qui (n + 1) x (l.set p s) := by
  have hpl : p < d.pages.length := by rw [h.pg, h.len]; exact hp
  have hw : d.writes ≠ 1099511627776 := by rw [h.wr]; omega
  have e := write_quiet h.ok h.dead hpl hs hw (by unfold nowR; rw [h.flt]; rfl)
  have ok := (write_ok h.ok h.dead hpl hs hw).2
  rw [e] at ok
  refine ⟨_, e, ok, ?_, by rw [List.length_set]; exact h.len, ?_, h.dead, h.flt, ?_⟩
  · show d.pages.set p s = _
    rw [h.pg]
  · show withoutR d.unread p = []
    rw [h.un]
    rfl
  · show d.writes + 1 = _
    rw [h.wr]
theorem Qui.read {n : Int} {d : Dv} {l : List ByteArray} (h : Qui n d l) {i : Nat} (hi : i < 4) : ∃ b, l[i]? = some b ∧ readR d i = (b, 0) := by
  have hl : i < l.length := by rw [h.len]; exact hi
  refine ⟨l[i], List.getElem?_eq_getElem hl, ?_⟩
  have hp : i < d.pages.length := by rw [h.pg]; exact hl
  rw [read_ok h.ok h.dead hp (by rw [h.un]; simp)]
  have e := h.pg
  subst e
  rfl
theorem fill_set {i : Nat} (h : i < 4) : ((List.replicate i blankPg) ++ (List.replicate (4 - i) (⟨#[]⟩ : ByteArray))).set i blankPg = (List.replicate (i + 1) blankPg) ++ (List.replicate (4 - (i + 1)) (⟨#[]⟩ : ByteArray)) := by
  generalize blankPg = B
  have h4 : i = 0 ∨ i = 1 ∨ i = 2 ∨ i = 3 := by omega
  rcases h4 with rfl | rfl | rfl | rfl <;> rfl
theorem fill_at {i : Nat} (h : i < 4) : ∃ b, ((List.replicate i blankPg) ++ (List.replicate (4 - i) (⟨#[]⟩ : ByteArray)))[i]? = some b := ⟨_, List.getElem?_eq_getElem (by simp; omega)⟩
theorem dv_left {f : FuncId} {args : Array Value} {w w1 : World} {R : List Rng} {x : Dv × Int} {C : Nat} (hC : C < w1.heap.size) (c : Calls Try.prog f args w (DvPost w1 R x)) : Calls Try.prog f args w fun e w' => DvPost w1 R x e w' ∧ leftIn w' C = leftIn w1 C :=
  c.mono fun e w' h => ⟨h, by obtain ⟨_, _, _, _, _, _, _, _, hb⟩ := h; exact leftIn_below hb hC⟩
set_option maxHeartbeats 16000000 in
theorem quiet_any (x : Option Addr) (len cap : Nat) (zs : List Int) (w : World) (hr : IsRow .u8 w x len cap zs) :
    Calls Try.prog 5 #[.slice x len cap] w fun e w' => e = .returned (.bool true) ∧ Below w.heap.size w w' := by
  have HR := Lib.hid hr
  clear hr
  obtain ⟨d0, e1, q0⟩ := Qui.start
  have HE := Lib.hid e1
  have HQ0 := Lib.hid q0
  obtain ⟨L0, hmk, hcv⟩ := blank_row
  have HMk := Lib.hid hmk
  have HCv := Lib.hid hcv
  clear hmk hcv e1 q0
  obtain ⟨fs, hud⟩ := under_dv
  have HUD := Lib.hid hud
  obtain ⟨fs2, huf⟩ := under_flt
  have HUF := Lib.hid huf
  clear hud huf
  go_enter Try.func5, Try.ntmps5
  go_wp2_with fail
  refine (awake4 _).mono ?_
  rintro e w1 ⟨rfl, hb⟩
  have HS0 : Hid (Hp w [] w1) := (Hp.start w).calls hb
  clear hb
  go_wp2_with fail
  refine (new_hpl 200 (by omega) HS0.out HR.out).mono ?_
  rintro e w2 ⟨rfl, hs, hlf⟩
  have HS1 : Hid (Hp w [.cd w1.heap.size] w2) := hs
  have HLf : Hid (leftIn w2 w1.heap.size ≤ 200) := hlf
  clear hs HS0 HR hlf
  generalize w1.heap.size = C at *
  go_wp2_with fail
  refine (dv_left ((HS1.out).codes 0 rfl).lt (dv_as HE.out (new_dv 4 _))).mono ?_
  rintro e w3 ⟨⟨p0, u0, f0, R0, rfl, hrd, hin, hnew, hb⟩, hlf⟩
  obtain ⟨ap0, cp0, rfl, _⟩ := hrd.pages
  obtain ⟨au0, cu0, rfl, _⟩ := hrd.unread
  obtain ⟨af0, cf0, rfl, _⟩ := hrd.faults
  have HDv0 := Lib.hid hrd
  have HS2 : Hid (Hp w [.cd C, .rd R0] w3) := (HS1.out).addrd hb R0 hin (fun r hr => (hnew r hr).elim .inl (fun h => absurd h List.not_mem_nil))
  clear hb hin hnew hrd
  clear HS1
  have HLa1 : Hid (leftIn w3 C ≤ 200) := Lib.hid (by rw [hlf]; exact HLf.out)
  clear hlf HLf
  go_wp2_with (first | ((with_reducible refine wpList_alloc_ob 27 (dvCells nilS dvNil nilS nilS) ?_ ?_); (exact alloc_dv); simp only [Act.put, List.setIfInBounds_toArray, List.set_cons_zero, List.set_cons_succ]) | ((with_reducible refine wpList_store_ob 27 (.tmp 4) (w3.heap.size) (dvCells (.slice ap0 d0.pages.length cp0) d0 (.slice au0 d0.unread.length cu0) (.slice af0 d0.faults.length cf0)) (dvCells nilS dvNil nilS nilS) 27 ?_ ?_ ?_ ?_ ?_ ?_ ?_); (exact rfl); (exact rfl); (exact ((HS2.out).put 27 (dvCells nilS dvNil nilS nilS)).get 2 rfl); (exact info_dv); (exact rfl); (exact (oneCell_dv _ _ _ _ _ _ _ _ _ _)); skip) | ((with_reducible refine wpList_alloc_ob 53 (stCells (List.replicate 4 ⟨#[]⟩)) ?_ ?_); (exact alloc_s4); simp only [Act.put, List.setIfInBounds_toArray, List.set_cons_zero, List.set_cons_succ]))
  have HLa2 : Hid (leftIn (((w3.alloc (.cells (dvCells nilS dvNil nilS nilS).toArray 27)).setRow (w3.heap.size) (dvCells (.slice ap0 d0.pages.length cp0) d0 (.slice au0 d0.unread.length cu0) (.slice af0 d0.faults.length cf0)).toArray).alloc (.cells (stCells (List.replicate 4 ⟨#[]⟩)).toArray 53)) C ≤ 200) := Lib.hid (by rw [leftIn_of ((((Below.refl _ _).alloc (Nat.le_refl _) _).block _ ((((HS2.out).put 27 (dvCells nilS dvNil nilS nilS)).row 2 rfl (dvCells (.slice ap0 d0.pages.length cp0) d0 (.slice au0 d0.unread.length cu0) (.slice af0 d0.faults.length cf0))).codes 0 rfl).lt).trans ((setRow_other _ _ _ _ (((HS2.out).put 27 (dvCells nilS dvNil nilS nilS)).ne 0 2 rfl rfl (by decide) rfl rfl)).trans (((Below.refl _ _).alloc (Nat.le_refl _) _).block _ ((HS2.out).codes 0 rfl).lt)))]; exact HLa1.out)
  clear HLa1
  have HS3 : Hid (Hp w [.cd C, .rd R0, .ob (w3.heap.size) 27 (dvCells (.slice ap0 d0.pages.length cp0) d0 (.slice au0 d0.unread.length cu0) (.slice af0 d0.faults.length cf0)), .ob (((w3.alloc (.cells (dvCells nilS dvNil nilS nilS).toArray 27)).setRow (w3.heap.size) (dvCells (.slice ap0 d0.pages.length cp0) d0 (.slice au0 d0.unread.length cu0) (.slice af0 d0.faults.length cf0)).toArray).heap.size) 53 (stCells (List.replicate 4 ⟨#[]⟩))] (((w3.alloc (.cells (dvCells nilS dvNil nilS nilS).toArray 27)).setRow (w3.heap.size) (dvCells (.slice ap0 d0.pages.length cp0) d0 (.slice au0 d0.unread.length cu0) (.slice af0 d0.faults.length cf0)).toArray).alloc (.cells (stCells (List.replicate 4 ⟨#[]⟩)).toArray 53))) := (((HS2.out).put 27 (dvCells nilS dvNil nilS nilS)).row 2 rfl (dvCells (.slice ap0 d0.pages.length cp0) d0 (.slice au0 d0.unread.length cu0) (.slice af0 d0.faults.length cf0))).put 53 (stCells (List.replicate 4 ⟨#[]⟩))
  clear HS2
  generalize (((w3.alloc (.cells (dvCells nilS dvNil nilS nilS).toArray 27)).setRow (w3.heap.size) (dvCells (.slice ap0 d0.pages.length cp0) d0 (.slice au0 d0.unread.length cu0) (.slice af0 d0.faults.length cf0)).toArray).alloc (.cells (stCells (List.replicate 4 ⟨#[]⟩)).toArray 53)) = w4 at *
  generalize ((w3.alloc (.cells (dvCells nilS dvNil nilS nilS).toArray 27)).setRow (w3.heap.size) (dvCells (.slice ap0 d0.pages.length cp0) d0 (.slice au0 d0.unread.length cu0) (.slice af0 d0.faults.length cf0)).toArray).heap.size = B1 at *
  generalize w3.heap.size = B2 at *
  have HS4 : Hid (Hp w [.cd C, .ob B2 27 (dvCells (.slice ap0 d0.pages.length cp0) d0 (.slice au0 d0.unread.length cu0) (.slice af0 d0.faults.length cf0)), .ob B1 53 (stCells (List.replicate 4 ⟨#[]⟩)), .rd R0] w4) := HS3.out.pull [0, 2, 3, 1] rfl (pull_nd HS3.out.nd [0, 2, 3, 1] rfl (by decide))
  clear HS3
  go_loopw [7] (fun si wr => ∃ i : Nat, i ≤ 4 ∧ si = .int .i64 i ∧ Hp w [.cd C, .ob B2 27 (dvCells (.slice ap0 d0.pages.length cp0) d0 (.slice au0 d0.unread.length cu0) (.slice af0 d0.faults.length cf0)), .ob B1 53 (stCells ((List.replicate i blankPg) ++ (List.replicate (4 - i) (⟨#[]⟩ : ByteArray)))), .rd R0] wr ∧ leftIn wr C ≤ 200) (fun si _ => 4 - (intOf si).toNat)
  case atStart => exact ⟨0, by decide, rfl, HS4.out, HLa2.out⟩
  case round =>
    clear HS4 HLa2
    obtain ⟨i, hi4, rfl, hs, hlf⟩ := hrel
    have HQ := Lib.hid hs
    have HLf := Lib.hid hlf
    clear hs hlf
    by_cases hlt : i < 4
    · have hi0 : (0 : Int) ≤ (i : Int) := by omega
      have hii : (i : Int) < 4 := by omega
      have hm := HMk.out wr
      have hc := HCv.out wr
      have HSa : Hid (Hp w [.cd C, .ob B2 27 (dvCells (.slice ap0 d0.pages.length cp0) d0 (.slice au0 d0.unread.length cu0) (.slice af0 d0.faults.length cf0)), .ob B1 53 (stCells ((List.replicate i blankPg) ++ (List.replicate (4 - i) (⟨#[]⟩ : ByteArray)))), .rd R0] (wr.alloc (.cells L0.toArray 5))) := HQ.out.calls ((Below.refl _ _).alloc (Nat.le_refl _) _)
      have HLa : Hid (leftIn (wr.alloc (.cells L0.toArray 5)) C ≤ 200) := by show _ ≤ _; rw [leftIn_of (((Below.refl wr.heap.size wr).alloc (Nat.le_refl _) _).block _ (HQ.out.codes 0 rfl).lt)]; exact HLf.out
      obtain ⟨b, hb⟩ := fill_at hlt
      have c0 := HSa.out.at 2 rfl i (stCells_at hb)
      have f0 := HSa.out.frozen 2 rfl i
      have HNe : Hid (C ≠ B1) := HSa.out.ne 0 2 rfl rfl (by decide) rfl rfl
      have HLt := Lib.hid hlt
      clear hb hlt hi4
      go_wp2_with fail
      go_roundw
      case rel => exact ⟨i + 1, HLt.out, by go_num, by have h := HSa.out.set 2 rfl i (.string blankPg); rw [stCells_set, fill_set HLt.out] at h; exact h, by rw [leftIn_of (Below.heap_setCell _ _ _ _ HNe.out)]; exact HLa.out⟩
      case measure => simp [intOf]; try (have := HLt.out; omega)
    · have hii : ¬ (i : Int) < 4 := by omega
      have HQ4 : Hid (Hp w [.cd C, .ob B2 27 (dvCells (.slice ap0 d0.pages.length cp0) d0 (.slice au0 d0.unread.length cu0) (.slice af0 d0.faults.length cf0)), .ob B1 53 (stCells (List.replicate 4 blankPg)), .rd R0] wr) := by
        have h := HQ.out
        have e : i = 4 := by omega
        rw [e] at h
        exact Lib.hid h
      clear HQ hlt hi4
      go_wp2_with fail
      go_loopw [8] (fun si wr => ∃ (d : Dv) (l : List ByteArray) (pd ud fd : Value) (Rd : List Rng) (n : Nat), si = .int .i64 n ∧ Qui n d l ∧ DvRd pd ud fd d Rd ∧ Hp w [.cd C, .ob B2 27 (dvCells pd d ud fd), .ob B1 53 (stCells l), .rd Rd] wr ∧ leftIn wr C + n ≤ 200) (fun _ wr => leftIn wr C)
      case atStart => exact ⟨d0, _, _, _, _, _, 0, rfl, HQ0.out, HDv0.out, HQ4.out, HLf.out⟩
      case round =>
        clear HQ4 HLf HDv0 HQ0 HE
        obtain ⟨d, l, pd, ud, fd, Rd, n, rfl, qd, hdv, hs, hlf⟩ := hrel
        obtain ⟨apd, cpd, rfl, _⟩ := hdv.pages
        obtain ⟨aud, cud, rfl, _⟩ := hdv.unread
        obtain ⟨afd, cfd, rfl, _⟩ := hdv.faults
        have HDv := Lib.hid hdv
        have HQd := Lib.hid qd
        have HQ := Lib.hid hs
        have HLf : Hid (leftIn wr C + n ≤ 200) := hlf
        clear hdv hs hlf qd
        go_wp2_with fail
        refine (left_any C _ (HQ.out.codes 0 rfl)).mono ?_
        rintro e w51 ⟨q, v, rfl, hv, rfl⟩
        have HS1 : Hid (Hp w [.cd C, .ob B2 27 (dvCells (.slice apd d.pages.length cpd) d (.slice aud d.unread.length cud) (.slice afd d.faults.length cfd)), .ob B1 53 (stCells l), .rd Rd] (wr.drewN q)) := HQ.out.drewN q
        have HLf1 : Hid (leftIn (wr.drewN q) C + n ≤ 200 ∧ leftIn (wr.drewN q) C = leftIn wr C) := ⟨HLf.out, rfl⟩
        have HV : Hid (0 < v → 0 < leftIn (wr.drewN q) C) := hv
        clear HQ HLf hv
        generalize wr.drewN q = w52 at *
        by_cases hv0 : 0 < v
        · have HV2 := Lib.hid (HV.out hv0)
          go_wp2_with fail
          refine (left_small C 4 _ ((HS1.out).codes 0 rfl) (by omega) (by omega)).mono ?_
          rintro e w61 ⟨pn, rfl, p0, p1, hb, hc, hl⟩
          have HS61 : Hid (Hp w [.cd C, .ob B2 27 (dvCells (.slice apd d.pages.length cpd) d (.slice aud d.unread.length cud) (.slice afd d.faults.length cfd)), .ob B1 53 (stCells (l)), .rd Rd] w61) := (HS1.out).draws 0 rfl hb hc
          clear hb hc
          clear HS1
          obtain ⟨p, rfl⟩ := Int.eq_ofNat_of_zero_le p0
          have hp4 : p < 4 := by omega
          have HP4 := Lib.hid hp4
          have hpi : (p : Int) < 4 := by omega
          have hpi0 : (0 : Int) ≤ (p : Int) := by omega
          have HLf2 : Hid (leftIn w61 C + 1 + n ≤ 200 ∧ leftIn w61 C < leftIn wr C) := by have := HLf1.out; have := HV2.out; refine ⟨?_, ?_⟩ <;> omega
          clear p0 p1 hp4 hl HLf1 hv0 HV HV2
          go_wp2_with fail
          refine (bytes_left C _ ((HS61.out).codes 0 rfl)).mono ?_
          rintro e w62 ⟨s, rfl, hs2, hb, hc, hl⟩
          have HS62 : Hid (Hp w [.cd C, .ob B2 27 (dvCells (.slice apd d.pages.length cpd) d (.slice aud d.unread.length cud) (.slice afd d.faults.length cfd)), .ob B1 53 (stCells (l)), .rd Rd] w62) := (HS61.out).draws 0 rfl hb hc
          clear hb hc
          clear HS61
          have HSz := Lib.hid hs2
          have HLf3 : Hid (leftIn w62 C + 1 + n ≤ 200 ∧ leftIn w62 C < leftIn wr C) := by have := HLf2.out; refine ⟨?_, ?_⟩ <;> omega
          have HSm : Hid (s.size ≤ maxLen) := by show _ ≤ _; rw [hs2]; decide
          obtain ⟨X, eX, oX⟩ := HQd.out.step (by have := HLf3.out; omega) HP4.out hs2
          have HEX := Lib.hid eX
          have HQX := Lib.hid oX
          clear eX oX hs2 hl HLf2
          go_wp2_with (first | ((with_reducible refine wpList_load_ob 27 (.tmp 4) B2 (dvCells (.slice apd d.pages.length cpd) d (.slice aud d.unread.length cud) (.slice afd d.faults.length cfd)) 27 HUD.out ?_ ?_ ?_ ?_ ?_); (exact rfl); (exact (HS62.out).get 1 rfl); (exact rfl); (exact info_dv); simp only [Act.put, List.setIfInBounds_toArray, List.set_cons_zero, List.set_cons_succ]))
          refine (dv_left ((HS62.out).codes 0 rfl).lt (dv_as HEX.out (write_any p s _ HDv.out ((HS62.out).reads 3 rfl) HQd.out.ok.goodDv HSm.out HQd.out.ok.pg HQd.out.ok.fl))).mono ?_
          rintro e w63 ⟨⟨px, ux, fx, Rx, rfl, hrd, hin, hnew, hb⟩, hlf⟩
          obtain ⟨apx, cpx, rfl, _⟩ := hrd.pages
          obtain ⟨aux, cux, rfl, _⟩ := hrd.unread
          obtain ⟨afx, cfx, rfl, _⟩ := hrd.faults
          have HDvx := Lib.hid hrd
          have HS63 : Hid (Hp w [.cd C, .ob B2 27 (dvCells (.slice apd d.pages.length cpd) d (.slice aud d.unread.length cud) (.slice afd d.faults.length cfd)), .ob B1 53 (stCells (l)), .rd Rd, .rd Rx] w63) := (HS62.out).addrd hb Rx hin (fun r hr => (hnew r hr).elim .inl (fun h => .inr ⟨.rd Rd, List.mem_of_getElem? (i := 3) rfl, List.mem_map.2 ⟨r, h, rfl⟩⟩))
          clear hb hin hnew hrd
          clear HS62
          have HLa3 : Hid (leftIn w63 C + 1 + n ≤ 200 ∧ leftIn w63 C < leftIn wr C) := Lib.hid (by rw [hlf]; exact HLf3.out)
          clear hlf HLf3
          go_upto_region 18 with (first | ((with_reducible refine wpList_store_ob 27 (.tmp 4) B2 (dvCells (.slice apx X.pages.length cpx) X (.slice aux X.unread.length cux) (.slice afx X.faults.length cfx)) (dvCells (.slice apd d.pages.length cpd) d (.slice aud d.unread.length cud) (.slice afd d.faults.length cfd)) 27 ?_ ?_ ?_ ?_ ?_ ?_ ?_); (exact rfl); (exact rfl); (exact (HS63.out).get 1 rfl); (exact info_dv); (exact rfl); (exact (oneCell_dv _ _ _ _ _ _ _ _ _ _)); skip))
          have HLa4 : Hid (leftIn (w63.setRow B2 (dvCells (.slice apx X.pages.length cpx) X (.slice aux X.unread.length cux) (.slice afx X.faults.length cfx)).toArray) C + 1 + n ≤ 200 ∧ leftIn (w63.setRow B2 (dvCells (.slice apx X.pages.length cpx) X (.slice aux X.unread.length cux) (.slice afx X.faults.length cfx)).toArray) C < leftIn wr C) := Lib.hid (by rw [leftIn_of (setRow_other _ _ _ _ ((HS63.out).ne 0 1 rfl rfl (by decide) rfl rfl))]; exact HLa3.out)
          clear HLa3
          have HS64 : Hid (Hp w [.cd C, .ob B2 27 (dvCells (.slice apx X.pages.length cpx) X (.slice aux X.unread.length cux) (.slice afx X.faults.length cfx)), .ob B1 53 (stCells (l)), .rd Rd, .rd Rx] (w63.setRow B2 (dvCells (.slice apx X.pages.length cpx) X (.slice aux X.unread.length cux) (.slice afx X.faults.length cfx)).toArray)) := (HS63.out).row 1 rfl (dvCells (.slice apx X.pages.length cpx) X (.slice aux X.unread.length cux) (.slice afx X.faults.length cfx))
          clear HS63
          generalize (w63.setRow B2 (dvCells (.slice apx X.pages.length cpx) X (.slice aux X.unread.length cux) (.slice afx X.faults.length cfx)).toArray) = w64 at *
          have HS65 : Hid (Hp w [.cd C, .ob B2 27 (dvCells (.slice apx X.pages.length cpx) X (.slice aux X.unread.length cux) (.slice afx X.faults.length cfx)), .ob B1 53 (stCells (l)), .rd Rx] w64) := HS64.out.pull [0, 1, 2, 4] rfl (pull_nd HS64.out.nd [0, 1, 2, 4] rfl (by decide))
          clear HS64
          obtain ⟨bo, hbo⟩ : ∃ bo, l[p]? = some bo := ⟨_, List.getElem?_eq_getElem (by rw [HQd.out.len]; exact HP4.out)⟩
          have c0 := HS65.out.at 2 rfl p (stCells_at hbo)
          have f0 := HS65.out.frozen 2 rfl p
          have HNe : Hid (C ≠ B1) := HS65.out.ne 0 2 rfl rfl (by decide) rfl rfl
          have hnn : (n : Int) ≤ 200 := by have := HLa4.out; omega
          have hn0 : (0 : Int) ≤ (n : Int) := by omega
          clear hbo
          go_wp2_with fail
          go_roundw
          case rel => exact ⟨X, l.set p s, _, _, _, Rx, n + 1, by go_num, HQX.out, HDvx.out, by have h := HS65.out.set 2 rfl p (.string s); rw [stCells_set] at h; exact h, by rw [leftIn_of (Below.heap_setCell _ _ _ _ HNe.out)]; have := HLa4.out; omega⟩
          case measure => rw [leftIn_of (Below.heap_setCell _ _ _ _ HNe.out)]; exact HLa4.out.2
        · have hv1 : ¬ 0 < v := hv0
          clear hv0 HV
          go_wp2_with fail
          go_loopw [11] (fun si wr => ∃ i : Nat, i ≤ 4 ∧ si = .int .i64 i ∧ Hp w [.cd C, .ob B2 27 (dvCells (.slice apd d.pages.length cpd) d (.slice aud d.unread.length cud) (.slice afd d.faults.length cfd)), .ob B1 53 (stCells l), .rd Rd] wr) (fun si _ => 4 - (intOf si).toNat)
          case atStart => exact ⟨0, by decide, rfl, HS1.out⟩
          case round =>
            clear HS1 HLf1
            obtain ⟨i, hi4, rfl, hs⟩ := hrel
            have HQ := Lib.hid hs
            clear hs hv1
            by_cases hlt : i < 4
            · have hi0 : (0 : Int) ≤ (i : Int) := by omega
              have hii : (i : Int) < 4 := by omega
              obtain ⟨b, hb1, hb2⟩ := HQd.out.read hlt
              have HB1 := Lib.hid hb1
              have HB2 := Lib.hid hb2
              have HLt := Lib.hid hlt
              clear hb1 hb2 hlt hi4
              go_wp2_with (first | ((with_reducible refine wpList_load_ob 27 (.tmp 4) B2 (dvCells (.slice apd d.pages.length cpd) d (.slice aud d.unread.length cud) (.slice afd d.faults.length cfd)) 27 HUD.out ?_ ?_ ?_ ?_ ?_); (exact rfl); (exact (HQ.out).get 1 rfl); (exact rfl); (exact info_dv); simp only [Act.put, List.setIfInBounds_toArray, List.set_cons_zero, List.set_cons_succ]))
              refine (HB2.out ▸ read_any i _ HDv.out ((HQ.out).reads 3 rfl) HQd.out.ok.goodDv).mono ?_
              rintro e w121 ⟨rfl, hb⟩
              have HS121 : Hid (Hp w [.cd C, .ob B2 27 (dvCells (.slice apd d.pages.length cpd) d (.slice aud d.unread.length cud) (.slice afd d.faults.length cfd)), .ob B1 53 (stCells (l)), .rd Rd] w121) := (HQ.out).calls hb
              clear hb
              clear HQ
              have c0 := HS121.out.at 2 rfl i (stCells_at HB1.out)
              go_wp2_with fail
              go_roundw
              case rel => exact ⟨i + 1, HLt.out, by go_num, HS121.out⟩
              case measure => simp [intOf]; try (have := HLt.out; omega)
            · have hii : ¬ (i : Int) < 4 := by omega
              clear hlt hi4
              have hw := HQd.out.wr
              have c1 : wr.cell? ⟨B2, 1, none⟩ = some (.int .i64 n) := by rw [← hw]; exact HQ.out.at 1 rfl 1 rfl
              clear hw
              go_wp2_with fail
              go_ret
              exact ⟨rfl, HQ.out.old⟩
end Go.Proofs.Ytlmbnofkmmehoaa
