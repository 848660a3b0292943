/- pages that are torn -/
import Derived.Test.YtlmbnofkmmehoaaDvWq
namespace Go.Proofs.Ytlmbnofkmmehoaa
open Go.RowKit
set_option maxRecDepth 20000
set_option linter.unusedSimpArgs false
set_option linter.unusedVariables false

theorem list_torn {α : Type} (s o : List α) (m n : Nat) (hs : m ≤ s.length ∧ n ≤ s.length) (ho : o.length = s.length) : s.take n ++ (s.take m ++ o.drop m).drop n = s.take (max m n) ++ o.drop (max m n) := by
  by_cases h : n ≤ m
  · rw [Nat.max_eq_left h, List.drop_append_of_le_length (by rw [List.length_take]; omega), ← List.append_assoc]
    congr 1
    have e : s.take n = (s.take m).take n := by rw [List.take_take, Nat.min_eq_left h]
    rw [e, List.take_append_drop]
  · have h' : m ≤ n := by omega
    rw [Nat.max_eq_right h']
    congr 1
    rw [List.drop_append, List.drop_eq_nil_of_le (by rw [List.length_take]; omega), List.nil_append, List.drop_drop, List.length_take, Nat.min_eq_left hs.1]
    congr 1
    omega
theorem bytes_list {a b : ByteArray} (h : a.data.toList = b.data.toList) : a = b := by
  apply ByteArray.ext
  exact Array.toList_inj.1 h
theorem torn_twice (s o : ByteArray) (m n : Nat) (hs : s.size = 256) (ho : o.size = 256) (hm : m ≤ 256) (hn : n ≤ 256) :
    s.extract 0 n ++ (s.extract 0 m ++ o.extract m 256).extract n 256 = s.extract 0 (max m n) ++ o.extract (max m n) 256 := by
  have hs' : s.data.toList.length = 256 := hs
  have ho' : o.data.toList.length = 256 := ho
  apply bytes_list
  have key := list_torn s.data.toList o.data.toList m n (by omega) (by omega)
  have e256 : ∀ k : Nat, k ≤ 256 → (s.extract 0 k).data.toList = s.data.toList.take k := fun k _ => by simp [ByteArray.data_extract, Array.toList_extract, List.extract_eq_take_drop]
  have d256 : ∀ (x : ByteArray) (k : Nat), x.data.toList.length = 256 → (x.extract k 256).data.toList = x.data.toList.drop k := fun x k h => by
    simp [ByteArray.data_extract, Array.toList_extract, List.extract_eq_take_drop]
    rw [List.take_of_length_le (by rw [List.length_drop]; omega)]
  have hmid : (s.extract 0 m ++ o.extract m 256).data.toList = s.data.toList.take m ++ o.data.toList.drop m := by
    rw [ByteArray.data_append, Array.toList_append, e256 m hm, d256 o m ho']
  rw [ByteArray.data_append, Array.toList_append, ByteArray.data_append, Array.toList_append, e256 n hn, e256 (max m n) (by omega), d256 o _ ho', d256 _ n (by rw [hmid, List.length_append, List.length_take, List.length_drop]; omega), hmid]
  exact key
/-- a device of two pages, without faults, whose second page is this -/
structure Ter (d : Dv) (wr : Int) (s : ByteArray) : Prop where
  ok : DvOk d
  pg : d.pages = [blankPg, s]
  un : d.unread = []
  dead : d.dead = false
  flt : d.faults = []
  wr : d.writes = wr
theorem Ter.start : ∃ d0, newR 2 = (d0, 0) ∧ DvOk d0 ∧ ∀ s : ByteArray, s.size = 256 → ∃ d, writeR d0 1 s = (d, 0) ∧ Ter d 1 s := by
  obtain ⟨n1, n2⟩ := new_ok (n := 2) (by decide)
  have e0 : List.replicate 2 blankPg = [blankPg, blankPg] := rfl
  rw [e0] at n1 n2
  refine ⟨_, n1, n2, fun s hs => ?_⟩
  generalize hbl : blankPg = B at *
  have hw : (0 : Int) ≠ 1099511627776 := by decide
  have e := write_quiet n2 rfl (p := 1) (by show (1 : Nat) < 2; decide) hs hw rfl
  have ok := (write_ok n2 rfl (k := 1) (by show (1 : Nat) < 2; decide) hs hw).2
  have e' : writeR ⟨[B, B], 0, [], false, []⟩ ((1 : Nat) : Int) s = (⟨[B, s], 1, [], false, []⟩, 0) := e
  rw [e'] at ok
  exact ⟨_, e', ok, by rw [hbl], rfl, rfl, rfl, rfl⟩
theorem Ter.tear {d : Dv} {wr : Int} {o : ByteArray} (h : Ter d wr o) {s : ByteArray} (hs : s.size = 256) {c : Nat} (hc : c ≤ 256) : ∃ x, tearR d 1 s c = (x, 0) ∧ Ter x wr (s.extract 0 c ++ o.extract c 256) := by
  obtain ⟨t1, t2⟩ := tear_ok h.ok h.dead (k := 1) (by rw [h.pg]; show (1 : Nat) < 2; decide) hs hc
  refine ⟨_, t1, t2, ?_, ?_, h.dead, h.flt, h.wr⟩
  · show d.pages.set 1 (s.extract 0 c ++ (d.pages.getD 1 ⟨#[]⟩).extract c 256) = _
    rw [h.pg]
    rfl
  · show withoutR d.unread 1 = []
    rw [h.un]
    rfl
def fltTear (k : Nat) : Flt := ⟨3, 2, 0, 0, k, 0⟩
theorem fltTear_good {k : Nat} (h : k < 256) : GoodFlt (fltTear k) := by
  have z : (Lit.int .i64 3).wf = true ∧ (Lit.int .i64 2).wf = true ∧ (Lit.int .i64 0).wf = true ∧ (Lit.int .u8 0).wf = true := by decide
  refine ⟨z.1, z.2.1, z.2.2.1, z.2.2.1, ?_, z.2.2.2⟩
  show (Lit.int .i64 (k : Int)).wf = true
  simp [Lit.wf, IntKind.min, IntKind.max, IntKind.bits, IntKind.signed]; omega
theorem Ter.fault {d : Dv} {o : ByteArray} (h : Ter d 1 o) {s : ByteArray} (hs : s.size = 256) {k : Nat} (hk : k < 256) : ∃ y z, injectR d (fltTear k) = (y, 0) ∧ DvOk y ∧ writeR y 1 s = (z, 0) ∧ Ter z 2 (s.extract 0 k ++ o.extract k 256) := by
  have hl : d.pages.length = 2 := by rw [h.pg]; rfl
  have hfo : fltOkB d.pages.length d.writes (fltTear k) = true := by
    rw [hl, h.wr]
    unfold fltOkB rangesB shapeB fltTear
    simp
    omega
  obtain ⟨i1, i2⟩ := inject_ok h.ok hfo (fltTear_good hk) (by rw [h.flt]; decide)
  have hd : d = ⟨[blankPg, o], 1, [], false, []⟩ := by
    have h1 := h.pg; have h2 := h.un; have h3 := h.dead; have h4 := h.flt; have h5 := h.wr
    cases d
    simp only at h1 h2 h3 h4 h5
    subst h1 h2 h3 h4 h5
    rfl
  rw [hd] at i1 i2 ⊢
  generalize hbl : blankPg = B at *
  obtain ⟨w1, w2⟩ := write_ok i2 rfl (k := 1) (by show (1 : Nat) < 2; decide) hs (by show (1 : Int) ≠ 1099511627776; decide)
  have w1' : writeR ⟨[B, o], 1, [], false, [] ++ [fltTear k]⟩ ((1 : Nat) : Int) s = (placeR ⟨[B, o], 1 + 1, [], false, []⟩ 1 s k, 0) := w1
  have w1'' : writeR ⟨[B, o], 1, [], false, [] ++ [fltTear k]⟩ ((1 : Nat) : Int) s = (⟨[B, s.extract 0 k ++ o.extract k 256], 2, [], false, []⟩, 0) := w1'
  rw [w1''] at w2
  exact ⟨_, _, i1, i2, w1'', w2, by rw [hbl], rfl, rfl, rfl, rfl⟩
/-- where the second page lies -/
theorem Ter.at {d : Dv} {wr : Int} {s : ByteArray} (h : Ter d wr s) {a : Option Addr} {n c : Nat} {u f : Value} {R : List Rng} (hv : DvRd (.slice a n c) u f d R) : ∃ g off, a = some ⟨g, off, none⟩ ∧ n = 2 ∧ 2 ≤ c ∧ ∀ W, RdIn W R → W.cell? ⟨g, off + 1, none⟩ = some (.string s) := by
  obtain ⟨a', cap, h1, h2, h3, h4, h5, _⟩ := hv.pages
  have hl : d.pages.length = 2 := by rw [h.pg]; rfl
  cases h1
  obtain ⟨g, off, h6, h7⟩ := h5 (by omega)
  refine ⟨g, off, h6, hl, by omega, fun W hR => ?_⟩
  exact (hR _ h7).2 1 _ (by rw [h.pg]; rfl)
end Go.Proofs.Ytlmbnofkmmehoaa
