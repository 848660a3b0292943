/- the walks of the program's builder: the bytes of a page, one after the other -/
import Derived.Test.YtoceglomogcgcaaDoorPgChk
import Derived.Test.YtoceglomogcgcaaDoorCdPut
import Derived.Test.YtoceglomogcgcaaDoorRfEnc
import Derived.Lib.AppendStr
import Derived.Lib.JoinLaws
import Derived.Laws.CopyOwn
import Derived.Deep.RegionLaw
namespace Go.Proofs.YtoceglomogcgcaaDoor
open Go.RowKit

/-- nothing that was there is changed, but for blocks P and D -/
structure Apart (P D : Nat) (w w' : World) : Prop where
  os : w'.os = w.os
  tape : w'.tape = w.tape
  output : w'.output = w.output
  size : w.heap.size ≤ w'.heap.size
  block : ∀ k, k < w.heap.size → k ≠ P → k ≠ D → w'.heap[k]? = w.heap[k]?
theorem Apart.refl (P D : Nat) (w : World) : Apart P D w w := ⟨rfl, rfl, rfl, Nat.le_refl _, fun _ _ _ _ => rfl⟩
theorem Apart.trans {P D : Nat} {a b c : World} (h : Apart P D a b) (k : Apart P D b c) : Apart P D a c :=
  ⟨k.os.trans h.os, k.tape.trans h.tape, k.output.trans h.output, Nat.le_trans h.size k.size, fun i hi hP hD => (k.block i (Nat.lt_of_lt_of_le hi h.size) hP hD).trans (h.block i hi hP hD)⟩
theorem Apart.of_below {P D : Nat} {w w' : World} (h : Below w.heap.size w w') : Apart P D w w' := ⟨h.os, h.tape, h.output, h.size, fun k hk _ _ => h.block k hk⟩
theorem Apart.below {P D B : Nat} {w w' : World} (h : Apart P D w w') (hP : B ≤ P) (hD : B ≤ D) (hB : B ≤ w.heap.size) : Below B w w' := ⟨h.os, h.tape, h.output, h.size, fun k hk => h.block k (by omega) (by omega) (by omega)⟩
theorem Apart.cell {P D : Nat} {w w' : World} (h : Apart P D w w') {p : Addr} (hp : p.block < w.heap.size) (hP : p.block ≠ P) (hD : p.block ≠ D) : w'.cell? p = w.cell? p := World.cell?_of_block (h.block p.block hp hP hD)
theorem Apart.alloc {P D : Nat} {a w : World} (h : Apart P D a w) (o : Obj) : Apart P D a (w.alloc o) := h.trans (.of_below ((Below.refl _ _).alloc (Nat.le_refl _) _))
theorem Apart.setP {P D : Nat} {a w : World} (h : Apart P D a w) (j : Nat) (u : Value) : Apart P D a (w.setCell ⟨P, j, none⟩ u) :=
  h.trans ⟨rfl, rfl, rfl, by simp [World.setCell], fun _ _ hP _ => Below.heap_setCell _ _ _ _ hP⟩
theorem Apart.setRowD {P D : Nat} {a w : World} (h : Apart P D a w) (cs : Array Value) : Apart P D a (w.setRow D cs) :=
  h.trans ⟨rfl, rfl, rfl, by simp [World.setRow], fun k _ _ hD => setRow_other w D k cs (fun e => hD (by omega))⟩
def bufCells (L : List UInt8) : List Value := (L.map fun b => Value.int .u8 b.toNat) ++ List.replicate (256 - L.length) (.int .u8 0)
/-- a builder lies at block P, its bytes at block D -/
structure BufAt (w : World) (P D : Nat) (L : List UInt8) : Prop where
  head : w.heap[P]? = some (.cells #[.slice (some ⟨D, 0, none⟩) L.length 256] 61 (0, 0))
  row : w.heap[D]? = some (.cells (bufCells L).toArray 5 (0, 0))
  ne : P ≠ D
  len : L.length ≤ 256
theorem BufAt.cell {w : World} {P D : Nat} {L : List UInt8} (h : BufAt w P D L) : w.cell? ⟨P, 0, none⟩ = some (.slice (some ⟨D, 0, none⟩) L.length 256) := by
  have := h.head
  simp [World.cell?, this]
theorem BufAt.frozen {w : World} {P D : Nat} {L : List UInt8} (h : BufAt w P D L) : w.frozen? ⟨P, 0, none⟩ = false := by
  have := h.head
  simp [World.frozen?, this]
theorem BufAt.ltP {w : World} {P D : Nat} {L : List UInt8} (h : BufAt w P D L) : P < w.heap.size := (Array.getElem?_eq_some_iff.1 h.head).1
theorem BufAt.ltD {w : World} {P D : Nat} {L : List UInt8} (h : BufAt w P D L) : D < w.heap.size := (Array.getElem?_eq_some_iff.1 h.row).1
theorem BufAt.below {w w' : World} {P D B : Nat} {L : List UInt8} (h : BufAt w P D L) (hb : Below B w w') (hP : P < B) (hD : D < B) : BufAt w' P D L :=
  ⟨(hb.block _ hP).trans h.head, (hb.block _ hD).trans h.row, h.ne, h.len⟩
theorem BufAt.near {w w' : World} {P D : Nat} {L : List UInt8} (h : BufAt w P D L) (hb : Below w.heap.size w w') : BufAt w' P D L := h.below hb h.ltP h.ltD
theorem bufCells_app (L : List UInt8) (M : List UInt8) (h : L.length + M.length ≤ 256) :
    (bufCells L).take L.length ++ (M.map fun b => Value.int .u8 b.toNat) ++ (bufCells L).drop (L.length + M.length) = bufCells (L ++ M) := by
  unfold bufCells
  rw [List.take_left' (by simp), List.drop_append, List.drop_eq_nil_of_le (by simp), List.drop_replicate]
  simp only [List.map_append, List.length_append, List.length_map, List.append_assoc, List.nil_append]
  rw [show 256 - L.length - (L.length + M.length - L.length) = 256 - (L.length + M.length) from by omega]
theorem bufCells_length (L : List UInt8) (h : L.length ≤ 256) : (bufCells L).length = 256 := by
  unfold bufCells; simp; omega
theorem info_u8 : ∃ i, Tryd.prog.info? 5 = some i ∧ i.size = 1 := ⟨_, rfl, rfl⟩
/-- the world with the bytes M behind those of a builder -/
def bufW (w : World) (D : Nat) (L : List UInt8) : World := w.setRow D (bufCells L).toArray
theorem bufW_cell {w : World} {P D : Nat} {L M : List UInt8} (h : BufAt w P D L) : (bufW w D M).cell? ⟨P, 0, none⟩ = some (.slice (some ⟨D, 0, none⟩) L.length 256) := by
  have e : (bufW w D M).heap[P]? = w.heap[P]? := setRow_other w D P _ h.ne
  have := h.head
  rw [← e] at this
  simp [World.cell?, this]
theorem bufW_frozen {w : World} {P D : Nat} {L M : List UInt8} (h : BufAt w P D L) : (bufW w D M).frozen? ⟨P, 0, none⟩ = false := by
  have e : (bufW w D M).heap[P]? = w.heap[P]? := setRow_other w D P _ h.ne
  have := h.head
  rw [← e] at this
  simp [World.frozen?, this]
theorem bufW_at {w : World} {P D : Nat} {L M : List UInt8} (h : BufAt w P D L) (hM : M.length ≤ 256) : BufAt ((bufW w D M).setCell ⟨P, 0, none⟩ (.slice (some ⟨D, 0, none⟩) M.length 256)) P D M := by
  have e : (bufW w D M).heap[P]? = w.heap[P]? := setRow_other w D P _ h.ne
  refine ⟨(heap_setCell_same _ P 0 _ _ _ (e.trans h.head)).trans rfl, ?_, h.ne, hM⟩
  rw [Below.heap_setCell _ _ _ _ (show D ≠ P from h.ne.symm)]
  exact setRow_heap _ _ _ _ _ _ h.row
theorem bufW_apart {w : World} {P D : Nat} {M : List UInt8} : Apart P D w (bufW w D M) := (Apart.refl _ _ _).setRowD _
theorem append_str {w : World} {P D : Nat} {L : List UInt8} (h : BufAt w P D L) (s : ByteArray) (hr : L.length + s.size ≤ 256) :
    Sem.run Tryd.prog (Builtin.append_ #[22, 9] 22 #[.slice (some ⟨D, 0, none⟩) L.length 256, .string s]) w = .ok (.slice (some ⟨D, 0, none⟩) (L.length + s.size) 256) (bufW w D (L ++ s.data.toList)) := by
  obtain ⟨i, hi, hs⟩ := info_u8
  have := Go.Lib.run_append_room_string (P := Tryd.prog) w 22 9 22 5 i Tryd.underlying22 Tryd.underlying9 hi hs D L.length 256 _ h.row s hr (by rw [List.size_toArray, bufCells_length L h.len]; exact hr)
  rw [List.toList_toArray, show s.size = s.data.toList.length from (size_list s).symm] at this
  rw [show s.size = s.data.toList.length from (size_list s).symm]
  rw [show Go.Lib.strCells s = s.data.toList.map (fun b => Value.int .u8 b.toNat) from rfl, bufCells_app L _ (by rw [size_list]; exact hr)] at this
  exact this
/-- what the walk needs behind a call, at the append and behind it -/
def AppReady (P D : Nat) (L M : List UInt8) (s : ByteArray) (m : Nat) (w w6 w7 : World) : Prop :=
  w6.cell? ⟨P, 0, none⟩ = some (.slice (some ⟨D, 0, none⟩) L.length 256) ∧
  Sem.run Tryd.prog (Builtin.append_ #[22, 9] 22 #[.slice (some ⟨D, 0, none⟩) L.length 256, .string s]) w6 = .ok (.slice (some ⟨D, 0, none⟩) (L.length + m) 256) w7 ∧
  w7.cell? ⟨P, 0, none⟩ = some (.slice (some ⟨D, 0, none⟩) L.length 256) ∧ w7.frozen? ⟨P, 0, none⟩ = false ∧
  Hid (BufAt (w7.setCell ⟨P, 0, none⟩ (.slice (some ⟨D, 0, none⟩) (L.length + m) 256)) P D (L ++ M) ∧ Apart P D w (w7.setCell ⟨P, 0, none⟩ (.slice (some ⟨D, 0, none⟩) (L.length + m) 256)))
theorem app_ready {P D : Nat} {L : List UInt8} (s : ByteArray) {w w6 : World} (h : BufAt w6 P D L) (hb : Apart P D w w6) (hr : L.length + s.size ≤ 256) :
    ∃ w7, AppReady P D L s.data.toList s s.size w w6 w7 := by
  refine ⟨bufW w6 D (L ++ s.data.toList), h.cell, append_str h s hr, bufW_cell h, bufW_frozen h, ?_⟩
  have hl : (L ++ s.data.toList).length = L.length + s.size := by rw [List.length_append, size_list]
  have := bufW_at (M := L ++ s.data.toList) h (by rw [hl]; exact hr)
  rw [hl] at this
  exact ⟨this, (hb.trans bufW_apart).setP 0 _⟩
/-- append as one step of a region that draws: its run is given -/
theorem step_append_run {P : Program} {ops : Array Oper} {o : Oper} {a : Act} {w : World} {K : Act → World → Prop} {Q : Exit → Act → World → Prop} {E : Prop}
    (hg : o.guard = none) (s x : Operand) (t u : TypeId) (hop : o.op = Op.call { callee := Callee.builtin Builtin.append, args := #[s, x], argTypes := #[t, u] })
    (sv xv v : Value) (w' : World) (hs : a.eval s = sv) (hx : a.eval x = xv) (hr : Sem.run P (Builtin.append_ #[t, u] o.type #[sv, xv]) w = .ok v w')
    (hK : K (a.put o.dst v) w') : if Region.wanted o (yielded ops a.tmps) = true then Oper.wp P o a w K Q else E := by
  have hw : Region.wanted o (yielded ops a.tmps) = true := by simp [Region.wanted, hg]
  rw [if_pos hw]
  unfold Oper.wp
  simp [execOp, hop, resolve, invoke, builtin, hs, hx, hr, Result.andThen]
  exact hK
set_option maxHeartbeats 1000000 in
theorem number_any (P D : Nat) (L : List UInt8) (n : Int) (z : Nat) (w : World) (h : BufAt w P D L) (h1 : 1 ≤ z) (h8 : z ≤ 8) (hr : L.length + z ≤ 256) :
    Calls Tryd.prog 34 #[.pointer (some ⟨P, 0, none⟩), .int .i64 n, .int .i64 z] w fun e w' => e = .returned (.tuple #[]) ∧ BufAt w' P D (L ++ leL n z) ∧ Apart P D w w' := by
  have c0 := h.cell
  have hls : (ofL (leL n z)).data.toList = leL n z := ofL_list _
  have hsz : (ofL (leL n z)).size = z := by rw [ofL_size, leL_length]
  have HPP : Hid (Calls Tryd.prog 53 #[.string ⟨#[]⟩, .int .i64 n, .int .i64 z] w.drew fun e w6 => e = .returned (.string (ofL (leL n z))) ∧ ∃ w7, AppReady P D L (leL n z) (ofL (leL n z)) z w w6 w7) := by
    have := put_any ⟨#[]⟩ n z w.drew (by decide)
    rw [show putR ⟨#[]⟩ n (z : Int) = ofL (leL n z) from putR_list ⟨#[]⟩ n z h1 h8] at this
    refine this.mono ?_
    rintro e w6 ⟨rfl, hb⟩
    refine ⟨rfl, ?_⟩
    have hb' : Below w.heap.size w w6 := (Below.refl _ _).drew.trans hb
    obtain ⟨w7, hw⟩ := app_ready (ofL (leL n z)) (h.near hb') (.of_below hb') (by rw [hsz]; exact hr)
    rw [hsz, hls] at hw
    exact ⟨w7, hw⟩
  clear h hls hsz
  generalize ofL (leL n z) = s at *
  go_enter Tryd.func34, Tryd.ntmps34
  go_region_law (first | (refine step_append_run rfl _ _ _ _ rfl _ _ _ _ rfl rfl ha6 ?_) | (go_simp; go_wp2_with (go_at_call 53; refine (HPP.out).mono ?_; rintro e w6 ⟨rfl, w7, c6, ha6, c7, f7, HZ⟩)))
  all_goals go_wp2
  all_goals go_end0
  all_goals exact ⟨rfl, HZ.out.1, HZ.out.2⟩

/-- one byte more, out of a slice of one byte -/
theorem append_byte {w w1 : World} {P D : Nat} {L : List UInt8} (h : BufAt w P D L) (g : Nat) (h1 : w1.heap[D]? = w.heap[D]?) (hg : w1.cell? ⟨g, 0, none⟩ = some (.int .u8 0)) (hr : L.length + 1 ≤ 256) :
    Sem.run Tryd.prog (Builtin.append_ #[22, 22] 22 #[.slice (some ⟨D, 0, none⟩) L.length 256, .slice (some ⟨g, 0, none⟩) 1 1]) w1 = .ok (.slice (some ⟨D, 0, none⟩) (L.length + 1) 256) (bufW w1 D (L ++ [0])) := by
  obtain ⟨i, hi, hs⟩ := info_u8
  have := run_append_room (P := Tryd.prog) w1 22 22 5 i Tryd.underlying22 hi D L.length 256 _ (h1.trans h.row) ⟨g, 0, none⟩ 1 1 [.int .u8 0] (by rw [hs]; rfl) (fun j u hj => by
    match j, hj with
    | 0, hj => cases hj; exact hg) (by simp [Value.oneCell']) (by omega) (by rw [hs, List.size_toArray, bufCells_length L h.len]; simpa using hr)
  rw [hs, List.toList_toArray, Nat.mul_one] at this
  have e := bufCells_app L [0] hr
  rw [show ([0] : List UInt8).map (fun b => Value.int .u8 (b.toNat : Int)) = [.int .u8 0] from rfl] at e
  rw [show ([Value.int .u8 0] : List Value).length = ([0] : List UInt8).length from rfl, e] at this
  exact this
theorem wpList_append_run {P : Program} {ops : Array Oper} {rest : List Oper} {o : Oper} {a : Act} {w : World} {Q : Exit → Act → World → Prop}
    (hg : o.guard = none) (s x : Operand) (t u : TypeId) (hop : o.op = Op.call { callee := Callee.builtin Builtin.append, args := #[s, x], argTypes := #[t, u] })
    (sv xv v : Value) (w' : World) (hs : a.eval s = sv) (hx : a.eval x = xv) (hr : Sem.run P (Builtin.append_ #[t, u] o.type #[sv, xv]) w = .ok v w')
    (h : wpList P ops Q rest (a.put o.dst v) w') : wpList P ops Q (o :: rest) a w :=
  wpList_plain hg fun K hK => by
    unfold Oper.wp
    simp [execOp, hop, resolve, invoke, builtin, hs, hx, hr, Result.andThen]
    exact hK _ _ h
theorem byte_ready {P D : Nat} {L : List UInt8} {w : World} (h : BufAt w P D L) (hr : L.length + 1 ≤ 256) :
    ∃ w7, Sem.run Tryd.prog (Builtin.append_ #[22, 22] 22 #[.slice (some ⟨D, 0, none⟩) L.length 256, .slice (some ⟨w.heap.size, 0, none⟩) 1 1]) (w.alloc (.cells #[.int .u8 0] 5)) = .ok (.slice (some ⟨D, 0, none⟩) (L.length + 1) 256) w7 ∧
      w7.cell? ⟨P, 0, none⟩ = some (.slice (some ⟨D, 0, none⟩) L.length 256) ∧ w7.frozen? ⟨P, 0, none⟩ = false ∧
      Hid (BufAt (w7.setCell ⟨P, 0, none⟩ (.slice (some ⟨D, 0, none⟩) (L.length + 1) 256)) P D (L ++ [0]) ∧ Apart P D w (w7.setCell ⟨P, 0, none⟩ (.slice (some ⟨D, 0, none⟩) (L.length + 1) 256))) := by
  have hw : BufAt (w.alloc (.cells #[.int .u8 0] 5)) P D L := h.near ((Below.refl _ _).alloc (Nat.le_refl _) _)
  refine ⟨bufW (w.alloc (.cells #[.int .u8 0] 5)) D (L ++ [0]), append_byte hw _ rfl (by rw [World.cell?_alloc_new]; rfl) hr, bufW_cell hw, bufW_frozen hw, ?_⟩
  have := bufW_at (M := L ++ [0]) hw (by rw [List.length_append]; exact hr)
  rw [show (L ++ [(0 : UInt8)]).length = L.length + 1 from by simp] at this
  exact ⟨this, (((Apart.refl P D w).alloc _).trans bufW_apart).setP 0 _⟩
set_option maxHeartbeats 1000000 in
theorem fill_any (P D : Nat) (L : List UInt8) (m : Nat) (w : World) (h : BufAt w P D L) (hr : L.length + m ≤ 256) :
    Calls Tryd.prog 37 #[.pointer (some ⟨P, 0, none⟩), .int .i64 ((L.length + m : Nat) : Int)] w fun e w' => e = .returned (.tuple #[]) ∧ BufAt w' P D (L ++ List.replicate m 0) ∧ Apart P D w w' := by
  have HK := Lib.hid h
  have HR : Hid (L.length + m ≤ 256) := hr
  clear h
  go_enter Tryd.func37, Tryd.ntmps37
  go_wp2_with fail
  go_loopw [] (fun wr => ∃ k : Nat, k ≤ m ∧ BufAt wr P D (L ++ List.replicate k 0) ∧ Apart P D w wr) (fun wr => 256 - (match wr.cell? ⟨P, 0, none⟩ with | some (.slice _ n _) => n | _ => 0))
  case atStart => exact ⟨0, by omega, by simpa using HK.out, Apart.refl _ _ _⟩
  case round =>
    obtain ⟨k, hk, hat, hbr⟩ := hrel
    have c0 := hat.cell
    have HBr := Lib.hid hbr
    have hlen : (L ++ List.replicate k (0 : UInt8)).length = L.length + k := by rw [List.length_append, List.length_replicate]
    have HS1 : Hid (L ++ List.replicate (k + 1) (0 : UInt8) = (L ++ List.replicate k 0) ++ [0]) := by show _ = _; rw [List.append_assoc, List.replicate_succ']
    by_cases hlt : k < m
    · obtain ⟨w7, ha7, c7, f7, HZ⟩ := byte_ready hat (by omega)
      have HLn : Hid ((L ++ List.replicate k (0 : UInt8)).length = L.length + k) := hlen
      have hq : ((L ++ List.replicate k (0 : UInt8)).length : Int) < ((L.length + m : Nat) : Int) := by omega
      have HAT := Lib.hid hat
      clear hat hbr hlen hr
      generalize hLq : (L ++ List.replicate k (0 : UInt8)).length = q at *
      have HLq := Lib.hid hLq
      clear hLq
      generalize hmm : ((L.length + m : Nat) : Int) = M at *
      have HMM := Lib.hid hmm
      clear hmm
      go_wp2_with (first | (refine wpList_append_run rfl _ _ _ _ rfl _ _ _ _ rfl rfl ha7 ?_))
      go_roundw
      case rel => exact ⟨k + 1, by omega, by rw [HS1.out]; exact HZ.out.1, HBr.out.trans HZ.out.2⟩
      case measure =>
        have e1 := HZ.out.1.cell
        have e2 := HAT.out.cell
        rw [List.length_append, HLq.out] at e1
        rw [HLq.out] at e2
        rw [e1, e2]
        have := HLn.out
        have := HR.out
        simp
        omega
    · obtain rfl : k = m := by omega
      have hq : ¬ ((L ++ List.replicate k (0 : UInt8)).length : Int) < ((L.length + k : Nat) : Int) := by omega
      have HAT := Lib.hid hat
      clear hat hbr hlen hr
      generalize hLq : (L ++ List.replicate k (0 : UInt8)).length = q at *
      generalize ((L.length + k : Nat) : Int) = M at *
      go_wp2_with fail
      go_end0
      exact ⟨rfl, HAT.out, HBr.out⟩

set_option maxHeartbeats 2000000 in
theorem addCell_any (P D : Nat) (L : List UInt8) (st : Bool) (d : ByteArray) (w : World) (h : BufAt w P D L) (hd : d.size ≤ 12) (hr : L.length + 13 ≤ 256) :
    Calls Tryd.prog 36 #[.pointer (some ⟨P, 0, none⟩), .agg #[.bool st, .string d]] w fun e w' => e = .returned (.tuple #[]) ∧ BufAt w' P D (L ++ clL ⟨st, d⟩) ∧ Apart P D w w' := by
  have HN : Hid (Calls Tryd.prog 34 #[.pointer (some ⟨P, 0, none⟩), .int .i64 (if st then (d.size : Int) else 255), .int .i64 1] (w.alloc (.cells #[.bool st, .string d] 24)) fun e w2 => e = .returned (.tuple #[]) ∧
      w2.cell? ⟨w.heap.size, 1, none⟩ = some (.string d) ∧ ∃ w7, AppReady P D (L ++ leL (if st then (d.size : Int) else 255) 1) d.data.toList d d.size w w2.drew w7) := by
    have h1 := h.near ((Below.refl _ _).alloc (Nat.le_refl _) (.cells #[.bool st, .string d] 24))
    refine (number_any P D L _ 1 _ h1 (by omega) (by omega) (by omega)).mono ?_
    rintro e w2 ⟨rfl, hb, ha⟩
    refine ⟨rfl, ?_, app_ready d (w6 := w2.drew) (hb.near (Below.refl _ _).drew) ((((Apart.refl P D w).alloc _).trans ha).trans (.of_below (Below.refl _ _).drew)) (by rw [List.length_append, leL_length]; omega)⟩
    rw [ha.cell (p := ⟨w.heap.size, 1, none⟩) (by simp) (by have := h.ltP; simp; omega) (by have := h.ltD; simp; omega), World.cell?_alloc_new]
    rfl
  have HF : Hid (∀ w3, BufAt w3 P D ((L ++ leL (if st then (d.size : Int) else 255) 1) ++ d.data.toList) → Apart P D w w3 → Calls Tryd.prog 37 #[.pointer (some ⟨P, 0, none⟩), .int .i64 ((L.length + 13 : Nat) : Int)] w3 fun e w' => e = .returned (.tuple #[]) ∧ BufAt w' P D (L ++ clL ⟨st, d⟩) ∧ Apart P D w w') := by
    intro w3 h3 ha
    have hl : (((L ++ leL (if st then (d.size : Int) else 255) 1) ++ d.data.toList).length + (12 - d.size)) = L.length + 13 := by
      rw [List.length_append, List.length_append, leL_length, size_list]; omega
    have := fill_any P D _ (12 - d.size) w3 h3 (by rw [hl]; exact hr)
    rw [hl] at this
    refine this.mono ?_
    rintro e w4 ⟨rfl, h4, ha4⟩
    refine ⟨rfl, ?_, ha.trans ha4⟩
    rw [List.append_assoc, List.append_assoc] at h4
    exact h4
  have c0 := (h.near ((Below.refl _ _).alloc (Nat.le_refl _) (.cells #[.bool st, .string d] 24))).cell
  have hl1 : (L ++ leL (if st then (d.size : Int) else 255) 1).length = L.length + 1 := by rw [List.length_append, leL_length]
  have hwr : IntKind.i64.wrap ((L.length : Int) + 13) = ((L.length + 13 : Nat) : Int) := by rw [IntWalk.i64_in _ (by omega)]; rfl
  have hqi : (L.length : Int) ≤ 243 := by omega
  unfold AppReady at HN
  rw [hl1] at HN
  clear h hr hl1
  generalize ((L.length + 13 : Nat) : Int) = M at *
  generalize L.length = q at *
  cases st
  · generalize (L ++ leL (if false then (d.size : Int) else 255) 1) = L1 at *
    go_enter Tryd.func36, Tryd.ntmps36
    go_wp2_with fail
    refine (HN.out).mono ?_
    rintro e w2 ⟨rfl, cd, w7, c6', ha6, c7, f7, HZ⟩
    have c6 : w2.cell? ⟨P, 0, none⟩ = some (.slice (some ⟨D, 0, none⟩) (q + 1) 256) := c6'
    clear c6'
    go_wp2_with fail
    go_region_law (refine step_append_run rfl _ _ _ _ rfl _ _ _ _ rfl rfl ha6 ?_)
    all_goals go_wp2_with fail
    all_goals (refine (HF.out _ HZ.out.1 HZ.out.2).mono ?_; rintro e w8 ⟨rfl, h8, ha8⟩)
    all_goals go_wp2_with fail
    all_goals go_end0
    all_goals exact ⟨rfl, h8, ha8⟩
  · generalize (L ++ leL (if true then (d.size : Int) else 255) 1) = L1 at *
    go_enter Tryd.func36, Tryd.ntmps36
    go_wp2_with fail
    refine (HN.out).mono ?_
    rintro e w2 ⟨rfl, cd, w7, c6', ha6, c7, f7, HZ⟩
    have c6 : w2.cell? ⟨P, 0, none⟩ = some (.slice (some ⟨D, 0, none⟩) (q + 1) 256) := c6'
    clear c6'
    go_wp2_with fail
    go_region_law (refine step_append_run rfl _ _ _ _ rfl _ _ _ _ rfl rfl ha6 ?_)
    all_goals go_wp2_with fail
    all_goals (refine (HF.out _ HZ.out.1 HZ.out.2).mono ?_; rintro e w8 ⟨rfl, h8, ha8⟩)
    all_goals go_wp2_with fail
    all_goals go_end0
    all_goals exact ⟨rfl, h8, ha8⟩
end Go.Proofs.YtoceglomogcgcaaDoor
