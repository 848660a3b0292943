/- a device with one fault beside one without: which pages stay equal -/
import Derived.Test.YtlmbnofkmmehoaaOm11
namespace Go.Proofs.Ytlmbnofkmmehoaa
open Go.RowKit
set_option maxRecDepth 20000
set_option linter.unusedSimpArgs false
set_option linter.unusedVariables false

/-- a fault of a device of three pages that still works behind it -/
structure OncF (f : Flt) (k : Int) : Prop where
  kind : 1 ≤ f.kind ∧ f.kind ≤ 5
  at_ : f.at_ = k
  k : 1 ≤ k ∧ k ≤ 5
  ok : fltOkB 3 0 f = true
  good : GoodFlt f
theorem OncF.rng {f : Flt} {k : Int} (h : OncF f k) : (0 ≤ f.target ∧ f.target < 3) ∧ (0 ≤ f.page ∧ f.page < 3) := by
  have := flt_ranges h.ok
  exact ⟨this.1, this.2.2⟩
theorem OncF.one {f : Flt} {k : Int} (h : OncF f k) : f.target = 0 ∨ f.page = 0 := by
  have h1 := h.ok
  unfold fltOkB at h1
  have h2 := (Bool.and_eq_true _ _ ▸ h1 : _ ∧ _).2
  unfold shapeB at h2
  split at h2
  · have := of_decide_eq_true h2; omega
  · split at h2
    · have := of_decide_eq_true h2; omega
    · split at h2
      · have := of_decide_eq_true h2; omega
      · split at h2
        · have := of_decide_eq_true h2; omega
        · split at h2
          · have := of_decide_eq_true h2; omega
          · split at h2
            · have := of_decide_eq_true h2; omega
            · cases h2
structure Onc (f : Flt) (k i : Int) (a b : Dv) (T : List Bool) : Prop where
  oa : DvOk a
  ob : DvOk b
  la : a.pages.length = 3
  lb : b.pages.length = 3
  wa : a.writes + 1 = i
  wb : b.writes + 1 = i
  da : a.dead = false
  db : b.dead = false
  fa : a.faults = []
  ua : a.unread = []
  fb : b.faults = if i ≤ k then [f] else []
  lt : T.length = 3
  eq : ∀ x : Nat, x < 3 → T[x]? = some false → a.pages[x]? = b.pages[x]? ∧ (x : Int) ∉ b.unread
theorem whole_place {s : ByteArray} (hs : s.size = 256) (X : ByteArray) : s.extract 0 256 ++ X.extract 256 256 = s := by
  rw [extract_all s hs]
  apply ByteArray.ext
  simp
/-- a write of which no fault is handed in -/
theorem write_quiet {d : Dv} (h : DvOk d) (hd : d.dead = false) {p : Nat} (hp : p < d.pages.length) {s : ByteArray} (hs : s.size = 256) (hw : d.writes ≠ 1099511627776) (hn : nowR d = []) :
    writeR d p s = (⟨d.pages.set p s, d.writes + 1, withoutR d.unread p, d.dead, d.faults⟩, 0) := by
  rw [(write_ok h hd hp hs hw).1, hn]
  have hl : laterR d = d.faults := by
    unfold laterR
    rw [List.filter_eq_self]
    intro x hx
    unfold nowR at hn
    have := List.filter_eq_nil_iff.1 hn x hx
    simpa using this
  rw [hl]
  show ((placeR ⟨d.pages, d.writes + 1, d.unread, d.dead, d.faults⟩ (p : Int) s 256 : Dv), (0 : Int)) = _
  unfold placeR
  rw [whole_place hs]
  rfl
theorem land_one (d : Dv) (p : Nat) (s : ByteArray) (f : Flt) : (landR d p s [f]).dead = d.dead ∧ (landR d p s [f]).pages.length = d.pages.length ∧ (∀ y ∈ (landR d p s [f]).unread, y ∈ d.unread) ∧ ∀ x : Nat, x ≠ p → x ≠ f.target.toNat → (landR d p s [f]).pages[x]? = d.pages[x]? := by
  unfold landR
  split
  · exact ⟨rfl, rfl, fun y hy => hy, fun x _ _ => rfl⟩
  · split
    · exact ⟨rfl, by simp [placeR], fun y hy => (List.mem_filter.1 hy).1, fun x _ h2 => List.getElem?_set_ne (Ne.symm h2)⟩
    · split
      · exact ⟨rfl, by simp [placeR], fun y hy => (List.mem_filter.1 hy).1, fun x h1 _ => List.getElem?_set_ne (by simpa using Ne.symm h1)⟩
      · exact ⟨rfl, by simp [landR, placeR], fun y hy => (List.mem_filter.1 hy).1, fun x h1 _ => List.getElem?_set_ne (by simpa using Ne.symm h1)⟩
theorem happen_one (d : Dv) (f : Flt) (hk : f.kind ≠ 6) : (happenR d f).dead = d.dead ∧ (∀ y ∈ (happenR d f).unread, y = f.page ∨ y ∈ d.unread) ∧ ∀ x : Nat, x ≠ f.page.toNat → (happenR d f).pages[x]? = d.pages[x]? := by
  unfold happenR
  split
  · exact ⟨rfl, fun y hy => .inr hy, fun x hx => by
      show (d.pages.modify _ _)[x]? = _
      rw [List.getElem?_modify]
      simp [Ne.symm hx]⟩
  · split
    · exact ⟨rfl, fun y hy => with_mem hy, fun x _ => rfl⟩
    · try rw [if_neg hk]
      exact ⟨rfl, fun y hy => .inr hy, fun x _ => rfl⟩
/-- what is touched behind a write -/
def touchR (T : List Bool) (f : Flt) (k i : Int) (p : Nat) : List Bool := if i = k then ((T.set p true).set f.target.toNat true).set f.page.toNat true else if k < i then T.set p false else T
theorem Onc.step {f : Flt} {k i : Int} {a b : Dv} {T : List Bool} (hf : OncF f k) (h : Onc f k i a b T) (hi : i ≤ 6) {p : Nat} (hp : p < 3) {s : ByteArray} (hs : s.size = 256) :
    writeR a p s = ((writeR a p s).1, 0) ∧ writeR b p s = ((writeR b p s).1, 0) ∧ Onc f k (i + 1) (writeR a p s).1 (writeR b p s).1 (touchR T f k i p) := by
  have hwa : a.writes ≠ 1099511627776 := by have := h.wa; omega
  have hwb : b.writes ≠ 1099511627776 := by have := h.wb; omega
  have hpa : p < a.pages.length := by rw [h.la]; exact hp
  have hpb : p < b.pages.length := by rw [h.lb]; exact hp
  have hna : nowR a = [] := by unfold nowR; rw [h.fa]; rfl
  have ea := write_quiet h.oa h.da hpa hs hwa hna
  have oka := (write_ok h.oa h.da hpa hs hwa).2
  have okb := (write_ok h.ob h.db hpb hs hwb).2
  have e2b := (write_ok h.ob h.db hpb hs hwb).1
  have sa : writeR a p s = ((writeR a p s).1, 0) := by rw [ea]
  have sb : writeR b p s = ((writeR b p s).1, 0) := by rw [e2b]
  refine ⟨sa, sb, ?_⟩
  have hua : withoutR a.unread p = [] := by rw [h.ua]; rfl
  by_cases hik : i = k
  · -- the fault is handed in
    have hfb : b.faults = [f] := by rw [h.fb, if_pos (by omega)]
    have hnb : nowR b = [f] := by
      unfold nowR
      rw [hfb, List.filter_cons_of_pos (by simp; rw [hf.at_, h.wb]; exact hik.symm)]
      rfl
    have hlb : laterR b = [] := by
      unfold laterR
      rw [hfb, List.filter_cons_of_neg (by simp; rw [hf.at_, h.wb]; exact hik.symm)]
      rfl
    have eb : (writeR b p s).1 = happenR (landR ⟨b.pages, b.writes + 1, b.unread, b.dead, []⟩ p s [f]) f := by
      rw [e2b, hnb, hlb]
      rfl
    obtain ⟨l1, l2, l3, l4⟩ := land_one ⟨b.pages, b.writes + 1, b.unread, b.dead, []⟩ p s f
    obtain ⟨m1, m2, m3⟩ := happen_one (landR ⟨b.pages, b.writes + 1, b.unread, b.dead, []⟩ p s [f]) f (by have := hf.kind; omega)
    have m4 := happen_num (landR ⟨b.pages, b.writes + 1, b.unread, b.dead, []⟩ p s [f]) f
    have m5 := happen_wr (landR ⟨b.pages, b.writes + 1, b.unread, b.dead, []⟩ p s [f]) f
    have m6 : (happenR (landR ⟨b.pages, b.writes + 1, b.unread, b.dead, []⟩ p s [f]) f).faults = [] := by
      have := fold_faults [f] (landR ⟨b.pages, b.writes + 1, b.unread, b.dead, []⟩ p s [f])
      exact this.trans (land_faults _ _ _ _)
    have m7 : (landR ⟨b.pages, b.writes + 1, b.unread, b.dead, []⟩ p s [f]).writes = b.writes + 1 := (land_keep ⟨b.pages, b.writes + 1, b.unread, b.dead, []⟩ p s [f] h.ob.unr).2.1
    rw [ea] at oka ⊢
    rw [eb] at okb ⊢
    refine ⟨oka, okb, by show (List.set _ _ _).length = 3; rw [List.length_set]; exact h.la, ?_, by show a.writes + 1 + 1 = i + 1; rw [h.wa], ?_, h.da, ?_, h.fa, hua, ?_, ?_, ?_⟩
    · rw [m4, l2]; exact h.lb
    · rw [m5, m7, h.wb]
    · rw [m1, l1]; exact h.db
    · rw [m6, if_neg (by omega)]
    · unfold touchR; rw [if_pos hik]; simp [h.lt]
    · intro x hx ht
      unfold touchR at ht
      rw [if_pos hik] at ht
      have r := hf.rng
      have n3 : x ≠ f.page.toNat := by
        rintro rfl
        rw [List.getElem?_set_self (by simp [h.lt]; omega)] at ht
        cases ht
      rw [List.getElem?_set_ne (Ne.symm n3)] at ht
      have n2 : x ≠ f.target.toNat := by
        rintro rfl
        rw [List.getElem?_set_self (by simp [h.lt]; omega)] at ht
        cases ht
      rw [List.getElem?_set_ne (Ne.symm n2)] at ht
      have n1 : x ≠ p := by
        rintro rfl
        rw [List.getElem?_set_self (by rw [h.lt]; omega)] at ht
        cases ht
      rw [List.getElem?_set_ne (Ne.symm n1)] at ht
      obtain ⟨q1, q2⟩ := h.eq x hx ht
      refine ⟨?_, ?_⟩
      · rw [m3 x n3, l4 x n1 n2]
        show (a.pages.set p s)[x]? = b.pages[x]?
        rw [List.getElem?_set_ne (Ne.symm n1)]
        exact q1
      · intro hm
        rcases m2 _ hm with h1 | h1
        · apply n3; rw [← h1]; rfl
        · exact q2 (l3 _ h1)
  · have hnb : nowR b = [] := by
      unfold nowR
      rw [h.fb]
      split
      · rw [List.filter_cons_of_neg (by simp; rw [hf.at_, h.wb]; omega)]
        rfl
      · rfl
    have eb := write_quiet h.ob h.db hpb hs hwb hnb
    rw [ea] at oka ⊢
    rw [eb] at okb ⊢
    refine ⟨oka, okb, by show (List.set _ _ _).length = 3; rw [List.length_set]; exact h.la, by show (List.set _ _ _).length = 3; rw [List.length_set]; exact h.lb, by show a.writes + 1 + 1 = i + 1; rw [h.wa], by show b.writes + 1 + 1 = i + 1; rw [h.wb], h.da, h.db, h.fa, hua, ?_, ?_, ?_⟩
    · show b.faults = _
      rw [h.fb]
      by_cases hle : i ≤ k
      · rw [if_pos hle, if_pos (by omega)]
      · rw [if_neg hle, if_neg (by omega)]
    · unfold touchR
      rw [if_neg hik]
      split
      · simp [h.lt]
      · exact h.lt
    · intro x hx ht
      show (a.pages.set p s)[x]? = (b.pages.set p s)[x]? ∧ (x : Int) ∉ withoutR b.unread p
      by_cases hxp : x = p
      · subst hxp
        rw [List.getElem?_set_self hpa, List.getElem?_set_self hpb]
        refine ⟨rfl, fun hm => ?_⟩
        have := (List.mem_filter.1 hm).2
        simp at this
      · have ht' : T[x]? = some false := by
          unfold touchR at ht
          rw [if_neg hik] at ht
          split at ht
          · rw [List.getElem?_set_ne (Ne.symm hxp)] at ht; exact ht
          · exact ht
        obtain ⟨q1, q2⟩ := h.eq x hx ht'
        rw [List.getElem?_set_ne (Ne.symm hxp), List.getElem?_set_ne (Ne.symm hxp)]
        exact ⟨q1, fun hm => q2 (List.mem_filter.1 hm).1⟩
theorem Onc.read {f : Flt} {k i : Int} {a b : Dv} {T : List Bool} (h : Onc f k i a b T) {x : Nat} (hx : x < 3) : readR a x = ((readR a x).1, 0) ∧ (T[x]? = some false → readR b x = ((readR a x).1, 0)) := by
  have hxa : x < a.pages.length := by rw [h.la]; exact hx
  have hxb : x < b.pages.length := by rw [h.lb]; exact hx
  have ea := read_ok h.oa h.da hxa (by rw [h.ua]; simp)
  refine ⟨by rw [ea], fun ht => ?_⟩
  obtain ⟨q1, q2⟩ := h.eq x hx ht
  have eb := read_ok h.ob h.db hxb q2
  rw [eb, ea]
  rw [List.getElem?_eq_getElem hxa, List.getElem?_eq_getElem hxb] at q1
  rw [Option.some.inj q1]
theorem Onc.done {f : Flt} {k : Int} {a b : Dv} {T : List Bool} (hf : OncF f k) (h : Onc f k 7 a b T) : b.faults.length = 0 := by
  rw [h.fb, if_neg (by have := hf.k; omega)]
  rfl
/-- the two devices as the law makes them -/
theorem Onc.start {f : Flt} {k : Int} (hf : OncF f k) : ∃ a b, newR 3 = (a, 0) ∧ injectR a f = (b, 0) ∧ DvOk a ∧ DvOk b ∧ Onc f k 1 a b [false, false, false] := by
  obtain ⟨n1, n2⟩ := new_ok (n := 3) (by decide)
  have e0 : List.replicate 3 blankPg = [blankPg, blankPg, blankPg] := rfl
  rw [e0] at n1 n2
  obtain ⟨i1, i2⟩ := inject_ok n2 (x := f) hf.ok hf.good (by show (0 : Nat) < 64; decide)
  refine ⟨_, _, n1, i1, n2, i2, n2, i2, rfl, rfl, rfl, rfl, rfl, rfl, rfl, rfl, ?_, rfl, ?_⟩
  · rw [if_pos hf.k.1]; rfl
  · intro x hx _
    exact ⟨rfl, by simp⟩
theorem wfi_of {n : Int} (h0 : -9223372036854775808 ≤ n) (h1 : n ≤ 9223372036854775807) : (Lit.int .i64 n).wf = true := by
  simp [Lit.wf, IntKind.min, IntKind.max, IntKind.bits, IntKind.signed]; omega
/-- the faults that the law makes -/
theorem oncF_of {f : Flt} {k : Int} (hk : 1 ≤ k ∧ k ≤ 5) (hkd : 1 ≤ f.kind ∧ f.kind ≤ 5) (ha : f.at_ = k) (hp : 0 ≤ f.page ∧ f.page < 3) (ht : 0 ≤ f.target ∧ f.target < 3) (hb : 0 ≤ f.byte ∧ f.byte < 256) (hm : 0 ≤ f.mask ∧ f.mask ≤ 255) (hs : shapeB f = true) : OncF f k := by
  refine ⟨hkd, ha, hk, ?_, wfi_of (by omega) (by omega), wfi_of (by omega) (by omega), wfi_of (by omega) (by omega), wfi_of (by omega) (by omega), wfi_of (by omega) (by omega), ?_⟩
  · unfold fltOkB rangesB
    rw [hs]
    simp only [Bool.and_eq_true, Bool.not_eq_true', decide_eq_false_iff_not, and_true]
    omega
  · have := hm
    have e1 : IntKind.u8.min = 0 := by decide
    have e2 : IntKind.u8.max = 255 := by decide
    simp [Lit.wf, e1, e2]
    omega
end Go.Proofs.Ytlmbnofkmmehoaa
