/- texts of a claim, one after the other: the library's search through faults, by whatever function that reads, the walk of the reference's Copy, rows of whole elements that are written in place, the library's DeleteFunc over faults, the program's 'reduced', the program's isPage and its check of the pages, the program's check of the unreadable pages, the program's check of a fault -/
import Derived.Test.YtlmbnofkmmehoaaOm3
import Derived.Lib.SliceRun
/- the library's search through faults, by whatever function that reads -/
namespace Go.Proofs.Ytlmbnofkmmehoaa
open Go.RowKit
set_option maxRecDepth 20000
set_option linter.unusedSimpArgs false
set_option linter.unusedVariables false

/-- where the first one is, or -1 -/
def idxR {α : Type} (p : α → Bool) (l : List α) : Int := match l.findIdx? p with | some i => (i : Int) | none => -1
theorem idxR_none {α : Type} {p : α → Bool} {l : List α} (h : l.all (fun x => !p x) = true) : idxR p l = -1 := by
  unfold idxR
  have : l.findIdx? p = none := by
    rw [List.findIdx?_eq_none_iff]
    intro x hx
    have := (List.all_eq_true.1 h) x hx
    simpa using this
  rw [this]
theorem idxR_some {α : Type} {p : α → Bool} {l : List α} {k : Nat} (h : k < l.length) (hb : (l.take k).all (fun x => !p x) = true) (hx : p l[k] = true) : idxR p l = (k : Int) := by
  unfold idxR
  have : l.findIdx? p = some k := by
    rw [List.findIdx?_eq_some_iff_getElem]
    refine ⟨h, hx, fun j hj => ?_⟩
    have h1 : l[j] ∈ l.take k := by
      rw [List.mem_take_iff_getElem]
      exact ⟨j, by omega, rfl⟩
    have := (List.all_eq_true.1 hb) _ h1
    simpa using this
  rw [this]
/-- how a function of a fault answers -/
def FltFn (g : Nat) (lb : Array Value) (p : Flt → Bool) (l : List Flt) (w : World) : Prop :=
  ∀ W x, x ∈ l → Below w.heap.size w W → Calls Try.prog g (#[.agg (fltCells x).toArray] ++ lb) W fun e w' => e = .returned (.bool (p x)) ∧ Below W.heap.size W w'
def EntersF (g : Nat) : Prop := ∀ args w, (callFunc g args).run Try.prog w = .ok (.enter g args) w
set_option maxHeartbeats 4000000 in
theorem idxFlt_any (g : Nat) (lb : Array Value) (q : Flt → Bool) (l : List Flt) (v : Value) (R : List Rng) (w : World) (eg : EntersF g) (hp : FltFn g lb q l w) (hv : SlRd v 6 l.length (fltRow l) R) (hR : RdIn w R) (hl : l.length ≤ 1000) :
    Calls Try.prog 62 #[v, .func (.func g) #[] lb] w fun e w' => e = .returned (.int .i64 (idxR q l)) ∧ Below w.heap.size w w' := by
  obtain ⟨a, cap, rfl, hnc, hcm, hg⟩ := hv.open hR
  obtain ⟨fs, huf⟩ := under_flt
  have HUF := Lib.hid huf
  have HC : Hid (l.length ≤ cap ∧ cap ≤ maxLen) := ⟨hnc, hcm⟩
  have HL := Lib.hid hl
  have HP := Lib.hid hp
  clear hv hR hnc hcm hl huf hp
  unfold EntersF at eg
  go_enter Try.func62, Try.ntmps62
  go_wp2_with fail
  go_loopw [8] (fun i wr => ∃ k : Nat, k ≤ l.length ∧ i = .int .i64 k ∧ (l.take k).all (fun x => !q x) = true ∧ Below w.heap.size w wr) (fun i _ => l.length - (intOf i).toNat)
  case atStart => exact ⟨0, by omega, rfl, rfl, Below.refl _ _⟩
  case round =>
    obtain ⟨k, hk, rfl, hh, hb⟩ := hrel
    have HB := Lib.hid hb
    have HH := Lib.hid hh
    clear hb hh
    by_cases hlt : k < l.length
    · obtain ⟨b, off, rfl, hr⟩ := hg.out (by omega)
      obtain ⟨x, hx⟩ : ∃ x, l[k] = x := ⟨_, rfl⟩
      have hcells : Hid (wr.rangeAt b (off + k * 6) (fltCells x)) := fun j u hj => by
        rw [Nat.add_assoc]
        exact hr wr HB.out (k * 6 + j) u (fltRow_at l k hlt j u (by rw [hx]; exact hj))
      have hki : (k : Int) < (l.length : Int) := by omega
      have hk0 : (0 : Int) ≤ (k : Int) := by omega
      have hkm : (k : Int) < 1001 := by have := HL.out; omega
      have hcall := HP.out wr x (by rw [← hx]; exact List.getElem_mem hlt) HB.out
      have HY : Hid (q x = true → idxR q l = (k : Int)) := fun h => idxR_some hlt HH.out (by rw [hx]; exact h)
      have HN : Hid (q x = false → (l.take (k + 1)).all (fun x => !q x) = true) := fun h => all_take (f := fun x => !q x) hlt HH.out (by rw [hx, h]; rfl)
      clear hr hx
      cases hq : q x
      · have HX := HN.out hq
        rw [hq] at hcall
        have HX2 := Lib.hid HX
        clear HX HY HN
        go_wp2_with (first | ((with_reducible refine wpList_load_at 29 (.tmp 14) b (off + k * 6) (fltCells x) HUF.out ?_ ?_ ?_ ?_ ?_); (exact rfl); (exact hcells.out); (exact rfl); (exact info_flt); simp only [Act.put, List.setIfInBounds_toArray, List.set_cons_zero, List.set_cons_succ]))
        refine hcall.mono ?_
        rintro e w2 ⟨rfl, hb⟩
        have HB2 : Hid (Below w.heap.size w w2) := HB.out.trans (hb.mono HB.out.size)
        clear hb
        go_wp2_with fail
        go_roundw
        case rel => exact ⟨k + 1, by omega, by go_num, HX2.out, HB2.out⟩
        case measure => simp [intOf]; omega
      · have HX := Lib.hid (HY.out hq)
        rw [hq] at hcall
        clear HY HN
        go_wp2_with (first | ((with_reducible refine wpList_load_at 29 (.tmp 14) b (off + k * 6) (fltCells x) HUF.out ?_ ?_ ?_ ?_ ?_); (exact rfl); (exact hcells.out); (exact rfl); (exact info_flt); simp only [Act.put, List.setIfInBounds_toArray, List.set_cons_zero, List.set_cons_succ]))
        refine hcall.mono ?_
        rintro e w2 ⟨rfl, hb⟩
        have HB2 : Hid (Below w.heap.size w w2) := HB.out.trans (hb.mono HB.out.size)
        clear hb
        go_wp2_with fail
        go_ret
        exact ⟨by rw [HX.out]; rfl, HB2.out⟩
    · obtain rfl : k = l.length := by omega
      rw [List.take_length] at HH
      have HX := Lib.hid (idxR_none HH.out)
      go_wp2_with fail
      go_ret
      exact ⟨by rw [HX.out]; rfl, HB.out⟩
end Go.Proofs.Ytlmbnofkmmehoaa
/- the walk of the reference's Copy -/
namespace Go.Proofs.Ytlmbnofkmmehoaa
open Go.RowKit
set_option maxRecDepth 20000

theorem one_of {l : List Value} (h : ∀ u ∈ l, u.oneCell' = true) : ∀ u ∈ l, u.oneCell' = true := h
theorem one_strs (l : List ByteArray) : ∀ u ∈ strRow l, u.oneCell' = true := fun u hu => by
  obtain ⟨s, _, rfl⟩ := List.mem_map.1 hu
  rfl
theorem one_ints (l : List Int) : ∀ u ∈ intRow l, u.oneCell' = true := fun u hu => by
  obtain ⟨s, _, rfl⟩ := List.mem_map.1 hu
  rfl
theorem one_flts (l : List Flt) : ∀ u ∈ fltRow l, u.oneCell' = true := fun u hu => by
  obtain ⟨x, _, hx⟩ := List.mem_flatMap.1 hu
  simp only [fltCells, List.mem_cons, List.not_mem_nil, or_false] at hx
  rcases hx with rfl | rfl | rfl | rfl | rfl | rfl <;> rfl
theorem SlRd.one {v : Value} {z n : Nat} {xs : List Value} {R : List Rng} (h : SlRd v z n xs R) : v.oneCell' = true := by
  obtain ⟨a, cap, rfl, _⟩ := h
  rfl
theorem own_one {B : Nat} {W : World} {e : TypeId} {z n : Nat} {v : Value} {xs : List Value} (h : W.ownsRow B e z v n xs) : v.oneCell' = true := by
  rcases h.2 with ⟨rfl, _⟩ | ⟨g, cap, cur, rfl, _⟩ <;> rfl
theorem dv_one {p u f : Value} (d : Dv) (hp : p.oneCell' = true) (hu : u.oneCell' = true) (hf : f.oneCell' = true) : ((dvCells p d u f).toArray).all (·.oneCell') = true := by
  rw [List.all_toArray]
  simp only [dvCells, List.all_cons, List.all_nil, hp, hu, hf, Bool.and_true, Bool.true_and]
  rfl
theorem own_slice {B : Nat} {W : World} {e : TypeId} {z n : Nat} {v : Value} {xs : List Value} (h : W.ownsRow B e z v n xs) : ∃ a c, v = .slice a n c := by
  rcases h.2 with ⟨rfl, h0⟩ | ⟨g, cap, cur, rfl, _⟩
  · exact ⟨none, 0, by rw [h0]⟩
  · exact ⟨_, _, rfl⟩
/-- how a copy ends: a device of the walk's own -/
def OwnDv (w w' : World) (v : Value) (d : Dv) : Prop := ∃ p u f, v = .agg (dvCells p d u f).toArray ∧ Hp w [.sl p 9 1 d.pages.length (strRow d.pages), .sl u 3 1 d.unread.length (intRow d.unread), .sl f 29 6 d.faults.length (fltRow d.faults)] w'
set_option maxHeartbeats 4000000 in
theorem copy_any {p u f : Value} {d : Dv} {R : List Rng} (w : World) (h : DvRd p u f d R) (hR : RdIn w R) (hp : d.pages.length ≤ 1000) (hu : d.unread.length ≤ 1000) (hf : d.faults.length ≤ 1000) :
    Calls Try.prog 36 #[.agg (dvCells p d u f).toArray] w fun e w' => ∃ v, e = .returned v ∧ OwnDv w w' v d := by
  have HPr := Lib.hid h.pages
  have HUr := Lib.hid h.unread
  have HFr := Lib.hid h.faults
  have HR := Lib.hid hR
  have HLp := Lib.hid hp
  have HLu := Lib.hid hu
  have HLf := Lib.hid hf
  obtain ⟨fs, hud⟩ := under_dv
  have HUD := Lib.hid hud
  have HUS : Hid (Try.prog.underlying 23 = some (.slice 9)) := Try.underlying23
  have HUI : Hid (Try.prog.underlying 24 = some (.slice 3)) := Try.underlying24
  have HUX : Hid (Try.prog.underlying 25 = some (.slice 29)) := Try.underlying25
  clear h hR hp hu hf hud
  have h1 := ((Hp.start w).put 27 (dvCells p d u f)).put 27 (dvCells nilS dvNil nilS nilS)
  simp only [World.size_alloc, List.nil_append, List.cons_append] at h1
  have HS0 : Hid (Hp w [.ob w.heap.size 27 (dvCells p d u f), .ob (w.heap.size + 1) 27 (dvCells nilS dvNil nilS nilS), .sl (.slice none 0 0) 9 1 0 []] ((w.alloc (.cells #[p, .int .i64 d.writes, u, .bool d.dead, f] 27)).alloc (.cells #[.slice none 0 0, .int .i64 0, .slice none 0 0, .bool false, .slice none 0 0] 27))) := h1.nil 9 1
  clear h1
  show Calls Try.prog 36 #[.agg #[p, .int .i64 d.writes, u, .bool d.dead, f]] w _
  go_enter Try.func36, Try.ntmps36
  go_wp2_with (first | ((with_reducible refine wpList_append_sl (HS0.out) (.const (.slice none 0 0)) (.tmp 4) 23 2 (v := .slice none 0 0) (n := 0) (xs := []) ?_ (xv := p) (m := d.pages.length) (ys := strRow d.pages) (R := R) ?_ ?_ HUS.out elem_s ?_ ?_ ?_ ?_ ?_); (exact rfl); (exact HPr.out); (exact HR.out.below HS0.out.old); (exact rfl); (exact rfl); (exact (one_strs _)); (exact (by have := HLp.out; omega))))
  intro v1 w1 hs
  have hs2 : Hp w [.ob w.heap.size 27 (dvCells p d u f), .ob (w.heap.size + 1) 27 (dvCells nilS dvNil nilS nilS), .sl v1 9 1 (0 + d.pages.length) ([] ++ strRow d.pages)] w1 := hs
  clear hs
  rw [Nat.zero_add, List.nil_append] at hs2
  obtain ⟨a1, c1, rfl⟩ := own_slice (hs2.own 2 rfl)
  have HA1 := Lib.hid hs2
  clear hs2
  have c : w1.cell? ⟨w.heap.size, 0, none⟩ = some p := HA1.out.at 0 rfl 0 rfl
  have fz : w1.frozen? ⟨w.heap.size, 0, none⟩ = false := HA1.out.frozen 0 rfl 0
  have c2 : (w1.setCell ⟨w.heap.size, 0, none⟩ (.slice a1 d.pages.length c1)).cell? ⟨w.heap.size, 2, none⟩ = some u := (HA1.out.set 0 rfl 0 (.slice a1 d.pages.length c1)).at 0 rfl 2 rfl
  have HB1 := Lib.hid ((HA1.out.set 0 rfl 0 (.slice a1 d.pages.length c1)).nil 3 1)
  go_wp2_with (first | ((with_reducible refine wpList_append_sl (HB1.out) (.const (.slice none 0 0)) (.tmp 8) 24 3 (v := .slice none 0 0) (n := 0) (xs := []) ?_ (xv := u) (m := d.unread.length) (ys := intRow d.unread) (R := R) ?_ ?_ HUI.out elem_i ?_ ?_ ?_ ?_ ?_); (exact rfl); (exact HUr.out); (exact HR.out.below HB1.out.old); (exact rfl); (exact rfl); (exact (one_ints _)); (exact (by have := HLu.out; omega))))
  clear c fz c2
  intro v2 w2 hs
  have hs2 : Hp w [.ob w.heap.size 27 (dvCells (.slice a1 d.pages.length c1) d u f), .ob (w.heap.size + 1) 27 (dvCells nilS dvNil nilS nilS), .sl (.slice a1 d.pages.length c1) 9 1 d.pages.length (strRow d.pages), .sl v2 3 1 (0 + d.unread.length) ([] ++ intRow d.unread)] w2 := hs
  clear hs
  rw [Nat.zero_add, List.nil_append] at hs2
  obtain ⟨a2, c2, rfl⟩ := own_slice (hs2.own 3 rfl)
  have HA2 := Lib.hid hs2
  clear hs2
  have c : w2.cell? ⟨w.heap.size, 2, none⟩ = some u := HA2.out.at 0 rfl 2 rfl
  have fz : w2.frozen? ⟨w.heap.size, 2, none⟩ = false := HA2.out.frozen 0 rfl 2
  have c4 : (w2.setCell ⟨w.heap.size, 2, none⟩ (.slice a2 d.unread.length c2)).cell? ⟨w.heap.size, 4, none⟩ = some f := (HA2.out.set 0 rfl 2 (.slice a2 d.unread.length c2)).at 0 rfl 4 rfl
  have HB2 := Lib.hid ((HA2.out.set 0 rfl 2 (.slice a2 d.unread.length c2)).nil 29 6)
  go_wp2_with (first | ((with_reducible refine wpList_append_sl (HB2.out) (.const (.slice none 0 0)) (.tmp 12) 25 4 (v := .slice none 0 0) (n := 0) (xs := []) ?_ (xv := f) (m := d.faults.length) (ys := fltRow d.faults) (R := R) ?_ ?_ HUX.out elem_flt ?_ ?_ ?_ ?_ ?_); (exact rfl); (exact HFr.out); (exact HR.out.below HB2.out.old); (exact rfl); (exact rfl); (exact (one_flts _)); (exact (by have := HLf.out; omega))))
  clear c fz c4
  intro v3 w3 hs
  have hs2 : Hp w [.ob w.heap.size 27 (dvCells (.slice a1 d.pages.length c1) d (.slice a2 d.unread.length c2) f), .ob (w.heap.size + 1) 27 (dvCells nilS dvNil nilS nilS), .sl (.slice a1 d.pages.length c1) 9 1 d.pages.length (strRow d.pages), .sl (.slice a2 d.unread.length c2) 3 1 d.unread.length (intRow d.unread), .sl v3 29 6 (0 + d.faults.length) ([] ++ fltRow d.faults)] w3 := hs
  clear hs
  rw [Nat.zero_add, List.nil_append] at hs2
  obtain ⟨a3, c3, rfl⟩ := own_slice (hs2.own 4 rfl)
  have HA3 := Lib.hid hs2
  clear hs2
  have c : w3.cell? ⟨w.heap.size, 4, none⟩ = some f := HA3.out.at 0 rfl 4 rfl
  have fz : w3.frozen? ⟨w.heap.size, 4, none⟩ = false := HA3.out.frozen 0 rfl 4
  have HB3 : Hid (Hp w [.ob w.heap.size 27 (dvCells (.slice a1 d.pages.length c1) d (.slice a2 d.unread.length c2) (.slice a3 d.faults.length c3)), .ob (w.heap.size + 1) 27 (dvCells nilS dvNil nilS nilS), .sl (.slice a1 d.pages.length c1) 9 1 d.pages.length (strRow d.pages), .sl (.slice a2 d.unread.length c2) 3 1 d.unread.length (intRow d.unread), .sl (.slice a3 d.faults.length c3) 29 6 d.faults.length (fltRow d.faults)] (w3.setCell ⟨w.heap.size, 4, none⟩ (.slice a3 d.faults.length c3))) := HA3.out.set 0 rfl 4 (.slice a3 d.faults.length c3)
  go_wp2_with (first | ((with_reducible refine wpList_load_ob 27 (.tmp 1) w.heap.size (dvCells (.slice a1 d.pages.length c1) d (.slice a2 d.unread.length c2) (.slice a3 d.faults.length c3)) 27 HUD.out ?_ ?_ ?_ ?_ ?_); (exact rfl); (exact HB3.out.get 0 rfl); (exact rfl); (exact info_dv); simp only [Act.put, List.setIfInBounds_toArray, List.set_cons_zero, List.set_cons_succ]) | ((with_reducible refine wpList_store_ob 27 (.tmp 2) (w.heap.size + 1) (dvCells (.slice a1 d.pages.length c1) d (.slice a2 d.unread.length c2) (.slice a3 d.faults.length c3)) (dvCells nilS dvNil nilS nilS) 27 ?_ ?_ ?_ ?_ ?_ ?_ ?_); (exact rfl); (exact rfl); (exact HB3.out.get 1 rfl); (exact info_dv); (exact rfl); (exact (oneCell_dv _ _ _ _ _ _ _ _ _ _)); skip))
  have HC : Hid (Hp w [.ob w.heap.size 27 (dvCells (.slice a1 d.pages.length c1) d (.slice a2 d.unread.length c2) (.slice a3 d.faults.length c3)), .ob (w.heap.size + 1) 27 (dvCells (.slice a1 d.pages.length c1) d (.slice a2 d.unread.length c2) (.slice a3 d.faults.length c3)), .sl (.slice a1 d.pages.length c1) 9 1 d.pages.length (strRow d.pages), .sl (.slice a2 d.unread.length c2) 3 1 d.unread.length (intRow d.unread), .sl (.slice a3 d.faults.length c3) 29 6 d.faults.length (fltRow d.faults)] ((w3.setCell ⟨w.heap.size, 4, none⟩ (.slice a3 d.faults.length c3)).setRow (w.heap.size + 1) (dvCells (.slice a1 d.pages.length c1) d (.slice a2 d.unread.length c2) (.slice a3 d.faults.length c3)).toArray)) := HB3.out.row 1 rfl (dvCells (.slice a1 d.pages.length c1) d (.slice a2 d.unread.length c2) (.slice a3 d.faults.length c3))
  refine bodyPost_ret (results_ob Try.results36 _ _ (w.heap.size + 1) (dvCells (.slice a1 d.pages.length c1) d (.slice a2 d.unread.length c2) (.slice a3 d.faults.length c3)) 27 _ rfl (HC.out.get 1 rfl) HUD.out rfl info_dv) rfl ?_
  exact ⟨_, rfl, (.slice a1 d.pages.length c1), (.slice a2 d.unread.length c2), (.slice a3 d.faults.length c3), rfl, HC.out.pull [2, 3, 4] rfl (pull_nd HC.out.nd [2, 3, 4] rfl (by decide))⟩
end Go.Proofs.Ytlmbnofkmmehoaa
/- rows of whole elements that are written in place -/
namespace Go.Proofs.Ytlmbnofkmmehoaa
open Go.RowKit
set_option maxRecDepth 20000
set_option linter.unusedSimpArgs false
set_option linter.unusedVariables false

theorem run_inj {a b : World} (h : (Result.ok () a : Result Unit) = .ok () b) : a = b := by injection h
theorem setCells_row {W : World} {g o : Nat} {cs cur : List Value} {t : TypeId} (hg : W.heap[g]? = some (.cells cur.toArray t (0, 0))) (hfit : o + cs.length ≤ cur.length) (h1 : ∀ v ∈ cs, v.oneCell' = true) :
    W.setCells g o cs = W.setRow g (splice cur o cs).toArray := by
  have a := run_storeCells_at Try.prog g o t cs 0 cur.toArray W hg (by simpa using hfit) h1
  have b := run_storeCells_cells (P := Try.prog) g o cs 0 W (fun j hj => by
    rw [Nat.add_zero, cell_of_row W g (o + j) _ _ _ hg, List.getElem?_toArray, List.getElem?_eq_getElem (by omega)]; rfl) (fun j hj => frozen_of_row _ _ _ _ _ hg) h1
  rw [a] at b
  simp only [Nat.add_zero] at b
  rw [← run_inj b]
  unfold splice
  rw [List.append_assoc]
theorem grown_setRow (W : World) (g : Nat) (cs : Array Value) : W.grownBy (W.setRow g cs) (some g) := ⟨rfl, rfl, rfl, by simp [World.setRow], fun k hk hne => setRow_other W g k cs (fun e => hne (by rw [e]))⟩
theorem grown_trans {a b c : World} {r : Option Nat} (h : a.grownBy b r) (k : b.grownBy c r) : a.grownBy c r := ⟨k.os.trans h.os, k.tape.trans h.tape, k.output.trans h.output, Nat.le_trans h.size k.size, fun i hi hne => (k.block i (Nat.lt_of_lt_of_le hi h.size) hne).trans (h.block i hi hne)⟩
theorem grown_below {a b : World} {r : Option Nat} (h : Below a.heap.size a b) : a.grownBy b r := ⟨h.os, h.tape, h.output, h.size, fun k hk _ => h.block k hk⟩
theorem grown_then {a b c : World} {r : Option Nat} (h : a.grownBy b r) (k : Below b.heap.size b c) : a.grownBy c r := grown_trans h (grown_below k)
theorem grown_refl (a : World) (r : Option Nat) : a.grownBy a r := ⟨rfl, rfl, rfl, Nat.le_refl _, fun _ _ _ => rfl⟩
section
variable {α : Type} {enc : α → List Value} {z : Nat}
def encRow (enc : α → List Value) (ys : List α) : List Value := ys.flatMap enc
theorem encRow_len (hz : ∀ x, (enc x).length = z) : ∀ ys : List α, (encRow enc ys).length = ys.length * z
  | [] => by simp [encRow]
  | y :: l => by
    show (enc y ++ encRow enc l).length = _
    rw [List.length_append, hz, encRow_len hz l, List.length_cons, Nat.add_mul]; omega
theorem encRow_append (a b : List α) : encRow enc (a ++ b) = encRow enc a ++ encRow enc b := List.flatMap_append
theorem encRow_at (hz : ∀ x, (enc x).length = z) (rest : List Value) {ys : List α} {k : Nat} (h : k < ys.length) : ∀ j v, (enc ys[k])[j]? = some v → (encRow enc ys ++ rest)[k * z + j]? = some v := by
  intro j v hv
  have hj := (List.getElem?_eq_some_iff.1 hv).1
  rw [hz] at hj
  have e : ys = ys.take k ++ (ys[k] :: ys.drop (k + 1)) := by rw [List.getElem_cons_drop, List.take_append_drop]
  have e2 : encRow enc ys = encRow enc (ys.take k) ++ (enc ys[k] ++ encRow enc (ys.drop (k + 1))) := by
    conv => lhs; rw [e]
    rw [encRow_append]
    rfl
  have l1 : (encRow enc (ys.take k)).length = k * z := by rw [encRow_len hz, List.length_take, Nat.min_eq_left (by omega)]
  rw [e2, List.append_assoc, List.getElem?_append_right (by omega), l1, Nat.add_sub_cancel_left, List.append_assoc, List.getElem?_append_left (by rw [hz]; exact hj)]
  exact hv
theorem encRow_set (hz : ∀ x, (enc x).length = z) (rest : List Value) {ys : List α} {k : Nat} (h : k < ys.length) (y : α) : splice (encRow enc ys ++ rest) (k * z) (enc y) = encRow enc (ys.set k y) ++ rest := by
  have e : ys = ys.take k ++ (ys[k] :: ys.drop (k + 1)) := by rw [List.getElem_cons_drop, List.take_append_drop]
  have e2 : encRow enc ys = encRow enc (ys.take k) ++ (enc ys[k] ++ encRow enc (ys.drop (k + 1))) := by
    conv => lhs; rw [e]
    rw [encRow_append]
    rfl
  have e3 : encRow enc (ys.set k y) = encRow enc (ys.take k) ++ (enc y ++ encRow enc (ys.drop (k + 1))) := by
    rw [List.set_eq_take_append_cons_drop, if_pos h, encRow_append]
    rfl
  have l1 : (encRow enc (ys.take k)).length = k * z := by rw [encRow_len hz, List.length_take, Nat.min_eq_left (by omega)]
  unfold splice
  rw [e2, e3, hz, List.append_assoc, List.take_append_of_le_length (by omega), List.take_of_length_le (by omega), List.drop_append, l1, List.drop_of_length_le (by omega), List.nil_append, Nat.add_sub_cancel_left, List.append_assoc, List.drop_append, hz, List.drop_of_length_le (by rw [hz]; omega), List.nil_append, Nat.sub_self, List.drop_zero, List.append_assoc, List.append_assoc]
theorem encRow_clear (hz : ∀ x, (enc x).length = z) (rest : List Value) {ys : List α} {i : Nat} (h : i ≤ ys.length) (zr : α) : splice (encRow enc ys ++ rest) (i * z) (encRow enc (List.replicate (ys.length - i) zr)) = encRow enc (ys.take i ++ List.replicate (ys.length - i) zr) ++ rest := by
  have e2 : encRow enc ys = encRow enc (ys.take i) ++ encRow enc (ys.drop i) := by rw [← encRow_append, List.take_append_drop]
  have l1 : (encRow enc (ys.take i)).length = i * z := by rw [encRow_len hz, List.length_take, Nat.min_eq_left h]
  have l2 : (encRow enc (ys.drop i)).length = (ys.length - i) * z := by rw [encRow_len hz, List.length_drop]
  have l3 : (encRow enc (List.replicate (ys.length - i) zr)).length = (ys.length - i) * z := by rw [encRow_len hz, List.length_replicate]
  unfold splice
  rw [encRow_append, e2, l3, List.append_assoc, List.take_append_of_le_length (by omega), List.take_of_length_le (by omega), List.drop_append, l1, List.drop_of_length_le (by omega), List.nil_append, Nat.add_sub_cancel_left, List.drop_append, l2, List.drop_of_length_le (by omega), List.nil_append, Nat.sub_self, List.drop_zero, List.append_assoc]
/-- what a search that strikes elements has done so far -/
structure KeptR (p : α → Bool) (l : List α) (j i : Nat) (ys : List α) : Prop where
  len : ys.length = l.length
  num : i = ((l.take j).filter fun x => !p x).length
  low : ys.take i = (l.take j).filter fun x => !p x
  high : ys.drop j = l.drop j
  lt : i < j
theorem KeptR.start {p : α → Bool} {l : List α} {k : Nat} (hk : k < l.length) (hb : (l.take k).all (fun x => !p x) = true) (hx : p l[k] = true) : KeptR p l (k + 1) k l := by
  have e : (l.take (k + 1)).filter (fun x => !p x) = l.take k := by
    rw [List.take_succ_eq_append_getElem hk, List.filter_append, List.filter_eq_self.2 (List.all_eq_true.1 hb)]
    simp [hx]
  exact ⟨rfl, by rw [e, List.length_take]; omega, e.symm, rfl, Nat.lt_succ_self _⟩
theorem KeptR.at {p : α → Bool} {l : List α} {j i : Nat} {ys : List α} (h : KeptR p l j i ys) (hj : j < l.length) : ys[j]'(by rw [h.len]; exact hj) = l[j] := by
  have := congrArg (fun m => m[0]?) h.high
  simp only [List.getElem?_drop, Nat.add_zero] at this
  rw [List.getElem?_eq_getElem (by rw [h.len]; exact hj), List.getElem?_eq_getElem hj] at this
  exact Option.some.inj this
theorem KeptR.keep {p : α → Bool} {l : List α} {j i : Nat} {ys : List α} (h : KeptR p l j i ys) (hj : j < l.length) (hx : p l[j] = false) : KeptR p l (j + 1) (i + 1) (ys.set i l[j]) := by
  have e : (l.take (j + 1)).filter (fun x => !p x) = (l.take j).filter (fun x => !p x) ++ [l[j]] := by
    rw [List.take_succ_eq_append_getElem hj, List.filter_append]
    simp [hx]
  have hlt := h.lt
  have hlen := h.len
  refine ⟨by rw [List.length_set]; exact hlen, by rw [e, List.length_append, ← h.num]; rfl, ?_, ?_, by omega⟩
  · rw [e, ← h.low, List.take_succ_eq_append_getElem (by rw [List.length_set]; omega), List.getElem_set_self]
    congr 1
    rw [List.take_set_of_le (Nat.le_refl _)]
  · rw [List.drop_set_of_lt (by omega)]
    have := congrArg (List.drop 1) h.high
    rw [List.drop_drop, List.drop_drop] at this
    exact this
theorem KeptR.skip {p : α → Bool} {l : List α} {j i : Nat} {ys : List α} (h : KeptR p l j i ys) (hj : j < l.length) (hx : p l[j] = true) : KeptR p l (j + 1) i ys := by
  have e : (l.take (j + 1)).filter (fun x => !p x) = (l.take j).filter (fun x => !p x) := by
    rw [List.take_succ_eq_append_getElem hj, List.filter_append]
    simp [hx]
  have hlt := h.lt
  refine ⟨h.len, by rw [e]; exact h.num, by rw [e]; exact h.low, ?_, by omega⟩
  have := congrArg (List.drop 1) h.high
  rw [List.drop_drop, List.drop_drop] at this
  exact this
theorem KeptR.done {p : α → Bool} {l : List α} {i : Nat} {ys : List α} (h : KeptR p l l.length i ys) : ys.take i = l.filter (fun x => !p x) ∧ i = (l.filter fun x => !p x).length := by
  have h1 := h.low
  have h2 := h.num
  rw [List.take_length] at h1 h2
  exact ⟨h1, h2⟩
end
theorem fltRow_enc (l : List Flt) : fltRow l = encRow fltCells l := rfl
def encI (n : Int) : List Value := [.int .i64 n]
theorem intRow_enc (l : List Int) : intRow l = encRow encI l := by
  induction l with
  | nil => rfl
  | cons x l ih =>
    show Value.int .i64 x :: intRow l = _
    rw [ih]
    rfl
theorem fltCells_len (x : Flt) : (fltCells x).length = 6 := rfl
theorem encI_len (x : Int) : (encI x).length = 1 := rfl
/-- a slice of its own, opened: its block's row -/
theorem own_open {α : Type} {enc : α → List Value} {z : Nat} (hz : ∀ x, (enc x).length = z) {B : Nat} {W : World} {e : TypeId} {n : Nat} {l : List α} {v : Value} (h : W.ownsRow B e z v n (encRow enc l)) (hn : n = l.length) (h0 : 0 < z) :
    (v = .slice none 0 0 ∧ l = []) ∨ ∃ g cap rest, v = .slice (some ⟨g, 0, none⟩) l.length cap ∧ B ≤ g ∧ W.heap[g]? = some (.cells (encRow enc l ++ rest).toArray e (0, 0)) ∧ l.length ≤ cap ∧ cap ≤ maxLen ∧ (encRow enc l ++ rest).length = cap * z := by
  subst hn
  rcases h.2 with ⟨hv, h1⟩ | ⟨g, cap, cur, hv, hB, hg, h1, h2, h3, h4⟩
  · exact .inl ⟨hv, List.eq_nil_of_length_eq_zero h1⟩
  · refine .inr ⟨g, cap, cur.toList.drop (l.length * z), hv, hB, ?_, h1, h2, ?_⟩
    · rw [hg, ← h4, List.take_append_drop]
    · rw [← h4, List.take_append_drop]; simpa using h3
theorem own_close {α : Type} {enc : α → List Value} {z : Nat} (hz : ∀ x, (enc x).length = z) {B : Nat} {W : World} {e : TypeId} {g cap : Nat} {l m : List α} {rest : List Value} (hB : B ≤ g) (hg : W.heap[g]? = some (.cells (encRow enc (l ++ m) ++ rest).toArray e (0, 0))) (h1 : l.length ≤ cap) (h2 : cap ≤ maxLen) (h3 : (encRow enc (l ++ m) ++ rest).length = cap * z) :
    W.ownsRow B e z (.slice (some ⟨g, 0, none⟩) l.length cap) l.length (encRow enc l) := by
  refine ⟨encRow_len hz l, .inr ⟨g, cap, _, rfl, hB, hg, h1, h2, by simpa using h3, ?_⟩⟩
  rw [encRow_append, List.append_assoc]
  rw [← encRow_len hz l]
  simp
theorem zero_row {α : Type} {enc : α → List Value} {z : Nat} (hz : ∀ x, (enc x).length = z) (h0 : 0 < z) (zr : α) (zv : Value) (hv : zv.cells.toList = enc zr) (n : Nat) : (Builtin.zeroCells zv.cells n).toList = encRow enc (List.replicate n zr) := by
  have hs : zv.cells.size = z := by rw [← Array.length_toList, hv, hz]
  apply List.ext_getElem
  · rw [encRow_len hz, List.length_replicate]
    simp [Builtin.zeroCells, hs]
  · intro i h1 h2
    rw [encRow_len hz, List.length_replicate] at h2
    have hk : i / z < n := Nat.div_lt_of_lt_mul (by rw [Nat.mul_comm]; exact h2)
    have hm : i % z < z := Nat.mod_lt _ h0
    have hat := encRow_at hz [] (ys := List.replicate n zr) (k := i / z) (by rw [List.length_replicate]; exact hk) (i % z) _ (List.getElem?_eq_getElem (by rw [hz]; exact hm))
    rw [List.append_nil, show i / z * z + i % z = i from by rw [Nat.mul_comm]; exact Nat.div_add_mod i z] at hat
    have e1 := (List.getElem?_eq_some_iff.1 hat).2
    rw [e1]
    simp only [List.getElem_replicate]
    simp only [Builtin.zeroCells, Array.toList_map, List.getElem_map, Array.getElem_toList, Array.getElem_range, hs]
    rw [getElem!_pos zv.cells (i % z) (by rw [hs]; exact hm)]
    have e2 : zv.cells.toList[i % z]'(by rw [Array.length_toList, hs]; exact hm) = (enc zr)[i % z]'(by rw [hz]; exact hm) := by
      simp only [hv]
    rw [← e2, Array.getElem_toList]
/-- what is cleared -/
theorem run_clear_row {α : Type} {enc : α → List Value} {z : Nat} (hz : ∀ x, (enc x).length = z) (h0 : 0 < z) {t e : TypeId} (ht : Try.prog.underlying t = some (.slice e)) (zr : α) (zv : Value) (hv : zv.cells.toList = enc zr) (hzv : ∀ W, (zeroValue e).run Try.prog W = .ok zv W) (W : World) {g i : Nat} {ys : List α} {rest : List Value} (hg : W.heap[g]? = some (.cells (encRow enc ys ++ rest).toArray e (0, 0))) (hi : i < ys.length)
    (h1 : ∀ v ∈ enc zr, v.oneCell' = true) (ty : TypeId) (c : Nat) :
    (Builtin.clear_ #[t] ty #[.slice (some ⟨g, i * z, none⟩) (ys.length - i) c]).run Try.prog W = .ok (.tuple #[]) (W.setRow g (encRow enc (ys.take i ++ List.replicate (ys.length - i) zr) ++ rest).toArray) := by
  have hlen : i * z + (encRow enc (List.replicate (ys.length - i) zr)).length ≤ (encRow enc ys ++ rest).length := by
    rw [encRow_len hz, List.length_replicate, List.length_append, encRow_len hz, ← Nat.add_mul, show i + (ys.length - i) = ys.length from by omega]
    omega
  have hone : ∀ v ∈ encRow enc (List.replicate (ys.length - i) zr), v.oneCell' = true := fun v hv' => by
    obtain ⟨x, hx, hxv⟩ := List.mem_flatMap.1 hv'
    rw [List.eq_of_mem_replicate hx] at hxv
    exact h1 v hxv
  have hst := run_storeCells_at Try.prog g (i * z) e (encRow enc (List.replicate (ys.length - i) zr)) 0 _ W hg (by simpa using hlen) hone
  rw [← encRow_clear hz rest (Nat.le_of_lt hi) zr]
  have hs : ∀ (l : List Value) (o : Nat) (cs : List Value), l.take o ++ cs ++ l.drop (o + cs.length) = splice l o cs := fun l o cs => by unfold splice; rw [List.append_assoc]
  simp only [Nat.add_zero, hs] at hst
  obtain ⟨m, hm⟩ : ∃ m, ys.length - i = m + 1 := ⟨ys.length - i - 1, by omega⟩
  have hzr := zero_row hz h0 zr zv hv (ys.length - i)
  rw [hm] at hst hzr ⊢
  simp [Builtin.clear_, run_underlying ht, hzv, hzr, hst]
end Go.Proofs.Ytlmbnofkmmehoaa
/- the library's DeleteFunc over faults -/
namespace Go.Proofs.Ytlmbnofkmmehoaa
open Go.RowKit
set_option maxRecDepth 20000
set_option linter.unusedSimpArgs false
set_option linter.unusedVariables false

theorem zeroV_flt (W : World) : (zeroValue 29).run Try.prog W = .ok (.agg (fltCells fltNil).toArray) W := by kernel_rfl
theorem one_fltl (x : Flt) : ∀ u ∈ fltCells x, u.oneCell' = true := by
  intro u hu
  simp only [fltCells, List.mem_cons, List.not_mem_nil, or_false] at hu
  rcases hu with rfl | rfl | rfl | rfl | rfl | rfl <;> rfl
theorem idxR_neg {α : Type} {p : α → Bool} {l : List α} (h : idxR p l = -1) : l.all (fun x => !p x) = true := by
  unfold idxR at h
  cases hf : l.findIdx? p with
  | none =>
    rw [List.findIdx?_eq_none_iff] at hf
    exact List.all_eq_true.2 (fun x hx => by simpa using hf x hx)
  | some i => rw [hf] at h; simp at h
theorem idxR_pos {α : Type} {p : α → Bool} {l : List α} (h : ¬ idxR p l = -1) : ∃ k, ∃ hk : k < l.length, idxR p l = (k : Int) ∧ (l.take k).all (fun x => !p x) = true ∧ p l[k] = true := by
  unfold idxR at h ⊢
  cases hf : l.findIdx? p with
  | none => rw [hf] at h; exact absurd rfl h
  | some i =>
    have hf' := List.findIdx?_eq_some_iff_getElem.1 hf
    obtain ⟨hi, hx, hb⟩ := hf'
    refine ⟨i, hi, rfl, List.all_eq_true.2 (fun x hx => ?_), hx⟩
    obtain ⟨j, hj, rfl⟩ := List.mem_take_iff_getElem.1 hx
    simpa using hb j (by omega)
/-- a function of a fault that answers the same whatever block g holds -/
def FltFnX (gn : Nat) (lb : Array Value) (p : Flt → Bool) (l : List Flt) (g : Option Nat) (w : World) : Prop :=
  ∀ W x, x ∈ l → w.grownBy W g → Calls Try.prog gn (#[.agg (fltCells x).toArray] ++ lb) W fun e w' => e = .returned (.bool (p x)) ∧ Below W.heap.size W w'
set_option maxHeartbeats 8000000 in
theorem delFlt_row (gn : Nat) (lb : Array Value) (q : Flt → Bool) (l : List Flt) (g cap : Nat) (rest : List Value) (w : World) (eg : EntersF gn) (hp : FltFnX gn lb q l (some g) w) (hl : l.length ≤ 1000) (hcap : l.length ≤ cap) (hcm : cap ≤ maxLen)
    (hg : w.heap[g]? = some (.cells (encRow fltCells l ++ rest).toArray 29 (0, 0))) :
    Calls Try.prog 40 #[.slice (some ⟨g, 0, none⟩) l.length cap, .func (.func gn) #[] lb] w fun e w' => e = .returned (.slice (some ⟨g, 0, none⟩) (l.filter fun x => !q x).length cap) ∧
      (∃ m : List Flt, (l.filter (fun x => !q x) ++ m).length = l.length ∧ w'.heap[g]? = some (.cells (encRow fltCells (l.filter (fun x => !q x) ++ m) ++ rest).toArray 29 (0, 0))) ∧ w.grownBy w' (some g) := by
  have hlt0 : g < w.heap.size := (Array.getElem?_eq_some_iff.1 hg).1
  have HRow : Hid (∀ (W : World) (ys : List Flt), W.heap[g]? = some (.cells (encRow fltCells ys ++ rest).toArray 29 (0, 0)) → ∀ k (h : k < ys.length), W.rangeAt g (k * 6) (fltCells ys[k])) := fun W ys hW k h j u hj => by
    rw [cell_of_row W g (k * 6 + j) _ _ _ hW, List.getElem?_toArray]
    exact encRow_at fltCells_len rest h j u hj
  have hIx : Calls Try.prog 62 #[.slice (some ⟨g, 0, none⟩) l.length cap, .func (.func gn) #[] lb] w fun e w' => e = .returned (.int .i64 (idxR q l)) ∧ Below w.heap.size w w' :=
    idxFlt_any gn lb q l _ [(g, 0, fltRow l)] w eg (fun W x hx hb => hp W x hx (grown_below hb)) ⟨_, cap, rfl, encRow_len fltCells_len l, hcap, hcm, fun _ => ⟨g, 0, rfl, List.mem_singleton.2 rfl⟩, fun h => by cases h⟩ (fun r hr => by
      obtain rfl := List.mem_singleton.1 hr
      refine ⟨hlt0, fun j u hj => ?_⟩
      have hj' : (encRow fltCells l)[j]? = some u := hj
      show w.cell? ⟨g, 0 + j, none⟩ = some u
      rw [cell_of_row w g (0 + j) _ _ _ hg, List.getElem?_toArray, Nat.zero_add, List.getElem?_append_left (List.getElem?_eq_some_iff.1 hj').1]
      exact hj') hl
  have HP := Lib.hid hp
  have HG0 := Lib.hid hg
  have HC : Hid (l.length ≤ cap ∧ cap ≤ maxLen ∧ l.length ≤ 1000 ∧ g < w.heap.size) := ⟨hcap, hcm, hl, hlt0⟩
  obtain ⟨fs, huf⟩ := under_flt
  have HUF := Lib.hid huf
  clear hp hg hcap hcm hl huf hlt0
  unfold EntersF at eg
  by_cases hr : idxR q l = -1
  · have hall := idxR_neg hr
    rw [hr] at hIx
    have HF : Hid (l.filter (fun x => !q x) = l) := List.filter_eq_self.2 (List.all_eq_true.1 hall)
    clear hr hall
    go_enter Try.func40, Try.ntmps40
    go_wp2_with fail
    refine hIx.mono ?_
    rintro e w2 ⟨rfl, hb⟩
    have HB := Lib.hid hb
    clear hb hIx
    go_wp2_with fail
    go_ret
    refine ⟨by rw [HF.out]; rfl, ⟨[], by rw [HF.out, List.append_nil], ?_⟩, grown_below HB.out⟩
    rw [HF.out, List.append_nil]
    exact (HB.out.block _ HC.out.2.2.2).trans HG0.out
  · obtain ⟨k0, hk0, e0, hall, hx⟩ := idxR_pos hr
    have HK0 := Lib.hid (KeptR.start hk0 hall hx)
    have HK1 := Lib.hid hk0
    rw [e0] at hIx
    clear hr e0 hall hx
    have hk01 : ((k0 : Int) == -1) = false := by rw [beq_eq_false_iff_ne]; omega
    have hk0m : (k0 : Int) < 1001 := by have := HC.out; omega
    clear hk0
    go_enter Try.func40, Try.ntmps40
    go_wp2_with fail
    refine hIx.mono ?_
    rintro e w2 ⟨rfl, hb⟩
    have HB : Hid (w.grownBy w2 (some g) ∧ w2.heap[g]? = some (.cells (encRow fltCells l ++ rest).toArray 29 (0, 0))) := ⟨grown_below hb, (hb.block _ HC.out.2.2.2).trans HG0.out⟩
    clear hb hIx
    go_wp2_with fail
    go_loopw [5, 6] (fun si sj wr => ∃ (i j : Nat) (ys : List Flt), si = .int .i64 i ∧ sj = .int .i64 j ∧ j ≤ l.length ∧ KeptR q l j i ys ∧ w.grownBy wr (some g) ∧ wr.heap[g]? = some (.cells (encRow fltCells ys ++ rest).toArray 29 (0, 0))) (fun _ sj _ => l.length - (intOf sj).toNat)
    case atStart => exact ⟨k0, k0 + 1, l, rfl, by go_num, HK1.out, HK0.out, HB.out.1, HB.out.2⟩
    case round =>
      clear hk01 hk0m
      obtain ⟨i, j, ys, rfl, rfl, hj, hk, hgb, hgr⟩ := hrel
      have HK := Lib.hid hk
      have HGb := Lib.hid hgb
      have HGr := Lib.hid hgr
      clear hk hgb hgr HB
      by_cases hlt : j < l.length
      · have hji : (j : Int) < (l.length : Int) := by omega
        have hj0 : (0 : Int) ≤ (j : Int) := by omega
        have hjm : (j : Int) < 1000 := by have := HC.out; omega
        have hi0 : (0 : Int) ≤ (i : Int) := by omega
        have hil : (i : Int) < (l.length : Int) := by have := HK.out.lt; omega
        have him : (i : Int) < 1000 := by have := HK.out.lt; omega
        obtain ⟨x, hxe⟩ : ∃ x, l[j] = x := ⟨_, rfl⟩
        have HXe := Lib.hid hxe
        have hylen := HK.out.len
        have hjy : j < ys.length := by omega
        have HMid : Hid (wr.rangeAt g (j * 6) (fltCells x)) := by
          have h := HRow.out wr ys HGr.out j hjy
          rw [HK.out.at hlt, hxe] at h
          exact h
        have hlw : g < wr.heap.size := Nat.lt_of_lt_of_le HC.out.2.2.2 HGb.out.size
        have HW1 : Hid (Below wr.heap.size wr ((wr.alloc (.cells (fltCells fltNil).toArray 29)).setRow wr.heap.size (fltCells x).toArray)) := below_setRow ((Below.refl _ _).alloc (Nat.le_refl _) _) (Nat.le_refl _) _
        have HV1 : Hid (((wr.alloc (.cells (fltCells fltNil).toArray 29)).setRow wr.heap.size (fltCells x).toArray).heap[wr.heap.size]? = some (.cells (fltCells x).toArray 29 (0, 0))) := setRow_heap _ _ _ _ _ _ (heap_alloc_last wr _)
        have HSz1 : Hid (wr.heap.size < ((wr.alloc (.cells (fltCells fltNil).toArray 29)).setRow wr.heap.size (fltCells x).toArray).heap.size) := (Array.getElem?_eq_some_iff.1 HV1.out).1
        have hcall := HP.out _ x (by rw [← hxe]; exact List.getElem_mem hlt) (grown_then HGb.out HW1.out)
        have HYes := Lib.hid (fun h : q x = false => HK.out.keep hlt (by rw [hxe]; exact h))
        have HNo := Lib.hid (fun h : q x = true => HK.out.skip hlt (by rw [hxe]; exact h))
        have HILt : Hid (i < ys.length) := by show _ < _; have := HK.out.lt; omega
        clear hxe hylen hjy hj
        go_wp2_with (first | ((with_reducible refine wpList_load_at 29 (.tmp 24) g (j * 6) (fltCells x) HUF.out ?_ ?_ ?_ ?_ ?_); (exact rfl); (exact HMid.out); (exact rfl); (exact info_flt); simp only [Act.put, List.setIfInBounds_toArray, List.set_cons_zero, List.set_cons_succ]) | ((with_reducible refine wpList_alloc_ob 29 (fltCells fltNil) ?_ ?_); (exact alloc_flt); simp only [Act.put, List.setIfInBounds_toArray, List.set_cons_zero, List.set_cons_succ]) | ((with_reducible refine wpList_store_ob 29 (.tmp 7) wr.heap.size (fltCells x) (fltCells fltNil) 29 ?_ ?_ ?_ ?_ ?_ ?_ ?_); (exact rfl); (exact rfl); (exact heap_alloc_last wr _); (exact info_flt); (exact rfl); (exact oneCell_flt _); skip) | ((with_reducible refine wpList_load_ob 29 (.tmp 7) wr.heap.size (fltCells x) 29 HUF.out ?_ ?_ ?_ ?_ ?_); (exact rfl); (exact HV1.out); (exact rfl); (exact info_flt); simp only [Act.put, List.setIfInBounds_toArray, List.set_cons_zero, List.set_cons_succ]))
        refine hcall.mono ?_
        rintro e w3 ⟨rfl, hb⟩
        have HB3 : Hid (w.grownBy w3 (some g)) := grown_then (grown_then HGb.out HW1.out) hb
        have HG3 : Hid (w3.heap[g]? = some (.cells (encRow fltCells ys ++ rest).toArray 29 (0, 0))) := ((hb.block g (Nat.lt_trans hlw HSz1.out)).trans (HW1.out.block g hlw)).trans HGr.out
        have HV3 : Hid (w3.heap[wr.heap.size]? = some (.cells (fltCells x).toArray 29 (0, 0))) := (hb.block _ HSz1.out).trans HV1.out
        clear hb hcall HW1 HV1 HSz1 HGb HGr HMid hlw
        generalize wr.heap.size = bx at *
        cases hq : q x
        · have HK2 := Lib.hid (HYes.out hq)
          have HTh : Hid (w3.there g (i * 6) (fltCells x).toArray.size) := fun t ht => by
            have ht6 : t < 6 := ht
            refine ⟨?_, frozen_of_row _ _ _ _ _ HG3.out⟩
            have h := HRow.out w3 ys HG3.out i HILt.out t _ (List.getElem?_eq_getElem (by rw [fltCells_len]; exact ht6))
            rw [h]; rfl
          have HW4 : Hid (w3.setCells g (i * 6) (fltCells x).toArray.toList = w3.setRow g (encRow fltCells (ys.set i x) ++ rest).toArray) := by
            show _ = _
            rw [show (fltCells x).toArray.toList = fltCells x from rfl, setCells_row HG3.out (by
              rw [List.length_append, encRow_len fltCells_len, fltCells_len]
              have := HILt.out
              have h6 : i * 6 + 6 ≤ ys.length * 6 := by omega
              omega) (one_fltl x), encRow_set fltCells_len rest HILt.out]
          clear HYes HNo
          go_wp2_with (first | ((with_reducible refine wpList_load_ob 29 (.tmp 7) bx (fltCells x) 29 HUF.out ?_ ?_ ?_ ?_ ?_); (exact rfl); (exact HV3.out); (exact rfl); (exact info_flt); simp only [Act.put, List.setIfInBounds_toArray, List.set_cons_zero, List.set_cons_succ]) | ((with_reducible refine wpList_store_mid rfl 29 (.tmp 33) (.tmp 32) rfl g (i * 6) (fltCells x).toArray ?_ ?_ ?_ ?_ ?_ ?_); (exact rfl); (exact rfl); (exact HTh.out); (exact info_flt); (exact oneCell_flt _); skip))
          go_roundw
          case rel => exact ⟨i + 1, j + 1, ys.set i x, by go_num, by go_num, by omega, by rw [← HXe.out]; exact (by have h := HK2.out; rw [HXe.out] at h ⊢; exact h), by rw [HW4.out]; exact grown_trans HB3.out (grown_setRow _ _ _), by rw [HW4.out]; exact setRow_heap _ _ _ _ _ _ HG3.out⟩
          case measure => simp [intOf]; omega
        · have HK2 := Lib.hid (HNo.out hq)
          clear HYes HNo
          go_wp2_with fail
          go_roundw
          case rel => exact ⟨i, j + 1, ys, rfl, by go_num, by omega, HK2.out, HB3.out, HG3.out⟩
          case measure => simp [intOf]; omega
      · obtain rfl : j = l.length := by omega
        have hilt : i < l.length := HK.out.lt
        have hic : ¬ (cap = i) := by have := HC.out; omega
        have hil : (i : Int) ≤ (l.length : Int) := by omega
        have hi0 : (0 : Int) ≤ (i : Int) := by omega
        have hcl0 : (i : Int) ≤ (cap : Int) := by have := HC.out; omega
        have hcl := fun ty c => run_clear_row (t := 25) fltCells_len (by decide) Try.underlying25 fltNil (.agg (fltCells fltNil).toArray) rfl zeroV_flt wr HGr.out (i := i) (by rw [HK.out.len]; exact hilt) (one_fltl _) ty c
        rw [HK.out.len] at hcl
        clear hlt
        go_wp2_with fail
        go_ret
        obtain ⟨h1, h2⟩ := HK.out.done
        refine ⟨by rw [← h2]; rfl, ⟨List.replicate (l.length - i) fltNil, ?_, ?_⟩, grown_trans HGb.out (grown_setRow _ _ _)⟩
        · rw [List.length_append, ← h2, List.length_replicate]; omega
        · rw [← h1]; exact setRow_heap _ _ _ _ _ _ HGr.out
end Go.Proofs.Ytlmbnofkmmehoaa
/- the program's 'reduced' -/
namespace Go.Proofs.Ytlmbnofkmmehoaa
open Go.RowKit
set_option maxRecDepth 20000
set_option linter.unusedSimpArgs false
set_option linter.unusedVariables false

def redR (f : Flt) : Flt × Bool :=
  if f.kind = 1 then (⟨f.kind, f.at_, 0, 0, 0, 0⟩, true)
  else if f.kind = 6 then (⟨f.kind, f.at_, 0, 0, 0, 0⟩, true)
  else if f.kind = 2 then (⟨f.kind, f.at_, 0, f.target, 0, 0⟩, true)
  else if f.kind = 3 then (⟨f.kind, f.at_, 0, 0, f.byte, 0⟩, true)
  else if f.kind = 4 then (⟨f.kind, f.at_, f.page, 0, f.byte, f.mask⟩, true)
  else if f.kind = 5 then (⟨f.kind, f.at_, f.page, 0, 0, 0⟩, true)
  else (fltNil, false)
def RedPost (x : Flt) (w : World) (e : Ending) (w' : World) : Prop := e = .returned (.tuple #[.agg (fltCells (redR x).1).toArray, .bool (redR x).2]) ∧ Below w.heap.size w w'
theorem heap_mid3 (w : World) (x y z : Obj) : (((w.alloc x).alloc y).alloc z).heap[w.heap.size + 1]? = some y := by
  simp only [World.alloc, Array.getElem?_push, Array.size_push]
  rw [if_neg (by omega), if_pos trivial]
theorem below3 (w : World) (x y z : Obj) : Below w.heap.size w (((w.alloc x).alloc y).alloc z) :=
  (((Below.refl _ _).alloc (Nat.le_refl _) _).alloc (by simp) _).alloc (by simp; omega) _
set_option maxHeartbeats 4000000 in
theorem reduced_1 (t p g b m : Int) (w : World) : Calls Try.prog 70 #[.agg #[.int .i64 1, .int .i64 t, .int .i64 p, .int .i64 g, .int .i64 b, .int .u8 m]] w (RedPost ⟨1, t, p, g, b, m⟩ w) := by
  have HR : Hid (redR ⟨1, t, p, g, b, m⟩ = (⟨1, t, 0, 0, 0, 0⟩, true)) := rfl
  obtain ⟨fs, huf⟩ := under_flt
  have HUF := Lib.hid huf
  clear huf
  go_enter Try.func70, Try.ntmps70
  go_wp2
  refine bodyPost_ret (results_ob_tmp Try.results70 _ _ (w.heap.size + 1) (fltCells ⟨1, t, 0, 0, 0, 0⟩) 29 _ rfl (heap_mid3 w _ _ _) HUF.out rfl info_flt) rfl ?_
  exact ⟨by rw [HR.out]; rfl, below3 w _ _ _⟩
set_option maxHeartbeats 4000000 in
theorem reduced_6 (t p g b m : Int) (w : World) : Calls Try.prog 70 #[.agg #[.int .i64 6, .int .i64 t, .int .i64 p, .int .i64 g, .int .i64 b, .int .u8 m]] w (RedPost ⟨6, t, p, g, b, m⟩ w) := by
  have HR : Hid (redR ⟨6, t, p, g, b, m⟩ = (⟨6, t, 0, 0, 0, 0⟩, true)) := rfl
  obtain ⟨fs, huf⟩ := under_flt
  have HUF := Lib.hid huf
  clear huf
  go_enter Try.func70, Try.ntmps70
  go_wp2
  refine bodyPost_ret (results_ob_tmp Try.results70 _ _ (w.heap.size + 1) (fltCells ⟨6, t, 0, 0, 0, 0⟩) 29 _ rfl (heap_mid3 w _ _ _) HUF.out rfl info_flt) rfl ?_
  exact ⟨by rw [HR.out]; rfl, below3 w _ _ _⟩
set_option maxHeartbeats 4000000 in
theorem reduced_2 (t p g b m : Int) (w : World) : Calls Try.prog 70 #[.agg #[.int .i64 2, .int .i64 t, .int .i64 p, .int .i64 g, .int .i64 b, .int .u8 m]] w (RedPost ⟨2, t, p, g, b, m⟩ w) := by
  have HR : Hid (redR ⟨2, t, p, g, b, m⟩ = (⟨2, t, 0, g, 0, 0⟩, true)) := rfl
  obtain ⟨fs, huf⟩ := under_flt
  have HUF := Lib.hid huf
  clear huf
  go_enter Try.func70, Try.ntmps70
  go_wp2
  refine bodyPost_ret (results_ob_tmp Try.results70 _ _ (w.heap.size + 1) (fltCells ⟨2, t, 0, g, 0, 0⟩) 29 _ rfl (heap_mid3 w _ _ _) HUF.out rfl info_flt) rfl ?_
  exact ⟨by rw [HR.out]; rfl, below3 w _ _ _⟩
set_option maxHeartbeats 4000000 in
theorem reduced_3 (t p g b m : Int) (w : World) : Calls Try.prog 70 #[.agg #[.int .i64 3, .int .i64 t, .int .i64 p, .int .i64 g, .int .i64 b, .int .u8 m]] w (RedPost ⟨3, t, p, g, b, m⟩ w) := by
  have HR : Hid (redR ⟨3, t, p, g, b, m⟩ = (⟨3, t, 0, 0, b, 0⟩, true)) := rfl
  obtain ⟨fs, huf⟩ := under_flt
  have HUF := Lib.hid huf
  clear huf
  go_enter Try.func70, Try.ntmps70
  go_wp2
  refine bodyPost_ret (results_ob_tmp Try.results70 _ _ (w.heap.size + 1) (fltCells ⟨3, t, 0, 0, b, 0⟩) 29 _ rfl (heap_mid3 w _ _ _) HUF.out rfl info_flt) rfl ?_
  exact ⟨by rw [HR.out]; rfl, below3 w _ _ _⟩
set_option maxHeartbeats 4000000 in
theorem reduced_4 (t p g b m : Int) (w : World) : Calls Try.prog 70 #[.agg #[.int .i64 4, .int .i64 t, .int .i64 p, .int .i64 g, .int .i64 b, .int .u8 m]] w (RedPost ⟨4, t, p, g, b, m⟩ w) := by
  have HR : Hid (redR ⟨4, t, p, g, b, m⟩ = (⟨4, t, p, 0, b, m⟩, true)) := rfl
  obtain ⟨fs, huf⟩ := under_flt
  have HUF := Lib.hid huf
  clear huf
  go_enter Try.func70, Try.ntmps70
  go_wp2
  go_region
  go_wp2
  refine bodyPost_ret (results_ob_tmp Try.results70 _ _ (w.heap.size + 1) (fltCells ⟨4, t, p, 0, b, m⟩) 29 _ rfl (heap_mid3 w _ _ _) HUF.out rfl info_flt) rfl ?_
  exact ⟨by rw [HR.out]; rfl, (below3 w _ _ _).drew⟩
set_option maxHeartbeats 4000000 in
theorem reduced_5 (t p g b m : Int) (w : World) : Calls Try.prog 70 #[.agg #[.int .i64 5, .int .i64 t, .int .i64 p, .int .i64 g, .int .i64 b, .int .u8 m]] w (RedPost ⟨5, t, p, g, b, m⟩ w) := by
  have HR : Hid (redR ⟨5, t, p, g, b, m⟩ = (⟨5, t, p, 0, 0, 0⟩, true)) := rfl
  obtain ⟨fs, huf⟩ := under_flt
  have HUF := Lib.hid huf
  clear huf
  go_enter Try.func70, Try.ntmps70
  go_wp2
  refine bodyPost_ret (results_ob_tmp Try.results70 _ _ (w.heap.size + 1) (fltCells ⟨5, t, p, 0, 0, 0⟩) 29 _ rfl (heap_mid3 w _ _ _) HUF.out rfl info_flt) rfl ?_
  exact ⟨by rw [HR.out]; rfl, below3 w _ _ _⟩
set_option maxHeartbeats 4000000 in
theorem reduced_0 (k : Int) (t p g b m : Int) (w : World) (k1 : ¬ k = 1) (k2 : ¬ k = 2) (k3 : ¬ k = 3) (k4 : ¬ k = 4) (k5 : ¬ k = 5) (k6 : ¬ k = 6) : Calls Try.prog 70 #[.agg #[.int .i64 k, .int .i64 t, .int .i64 p, .int .i64 g, .int .i64 b, .int .u8 m]] w (RedPost ⟨k, t, p, g, b, m⟩ w) := by
  have HR : Hid (redR ⟨k, t, p, g, b, m⟩ = (fltNil, false)) := by show _ = _; simp [redR, k1, k2, k3, k4, k5, k6]
  have e1 : (k == 1) = false := by rw [beq_eq_false_iff_ne]; exact k1
  have e2 : (k == 2) = false := by rw [beq_eq_false_iff_ne]; exact k2
  have e3 : (k == 3) = false := by rw [beq_eq_false_iff_ne]; exact k3
  have e4 : (k == 4) = false := by rw [beq_eq_false_iff_ne]; exact k4
  have e5 : (k == 5) = false := by rw [beq_eq_false_iff_ne]; exact k5
  have e6 : (k == 6) = false := by rw [beq_eq_false_iff_ne]; exact k6
  clear k1 k2 k3 k4 k5 k6
  obtain ⟨fs, huf⟩ := under_flt
  have HUF := Lib.hid huf
  clear huf
  go_enter Try.func70, Try.ntmps70
  go_wp2
  refine bodyPost_ret (results_ob_tmp Try.results70 _ _ (w.heap.size + 1) (fltCells fltNil) 29 _ rfl (heap_mid3 w _ _ _) HUF.out rfl info_flt) rfl ?_
  exact ⟨by rw [HR.out]; rfl, below3 w _ _ _⟩
theorem reduced_any (x : Flt) (w : World) : Calls Try.prog 70 #[.agg (fltCells x).toArray] w (RedPost x w) := by
  obtain ⟨k, t, p, g, b, m⟩ := x
  by_cases k1 : k = 1
  · subst k1; exact reduced_1 t p g b m w
  by_cases k6 : k = 6
  · subst k6; exact reduced_6 t p g b m w
  by_cases k2 : k = 2
  · subst k2; exact reduced_2 t p g b m w
  by_cases k3 : k = 3
  · subst k3; exact reduced_3 t p g b m w
  by_cases k4 : k = 4
  · subst k4; exact reduced_4 t p g b m w
  by_cases k5 : k = 5
  · subst k5; exact reduced_5 t p g b m w
  exact reduced_0 k t p g b m w k1 k2 k3 k4 k5 k6
end Go.Proofs.Ytlmbnofkmmehoaa
/- the program's isPage and its check of the pages -/
namespace Go.Proofs.Ytlmbnofkmmehoaa
open Go.RowKit
set_option maxRecDepth 20000

def all256 (l : List ByteArray) : Bool := l.all fun s => decide (s.size = 256)
/-- where a search ends: -1 if none is found -/
def IdxIs (none : Bool) (r : Int) : Prop := if none = true then r = -1 else 0 ≤ r
def inB (n : Nat) (page : Int) : Bool := !decide (page < 0) && !decide ((n : Int) ≤ page)
set_option maxHeartbeats 2000000 in
theorem isPage_any (d : Dv) (pa ua fa : Option Addr) (pc uc fc : Nat) (page : Int) (w : World) :
    Calls Try.prog 59 #[.agg #[.slice pa d.pages.length pc, .int .i64 d.writes, .slice ua d.unread.length uc, .bool d.dead, .slice fa d.faults.length fc], .int .i64 page] w fun e w' => e = .returned (.bool (inB d.pages.length page)) ∧ Below w.heap.size w w' := by
  have fin : Hid (∀ W, W = (w.alloc (.cells #[.slice pa d.pages.length pc, .int .i64 d.writes, .slice ua d.unread.length uc, .bool d.dead, .slice fa d.faults.length fc] 27)) → Below w.heap.size w W) := by
    rintro W rfl
    exact (Below.refl _ _).alloc (Nat.le_refl _) _
  generalize d.pages.length = n at *
  by_cases c1 : page < 0
  · have HX : Hid (inB n page = false) := by show _ = _; unfold inB; simp [c1]
    have c2 : ¬ 0 ≤ page := by omega
    clear c1
    go_enter Try.func59, Try.ntmps59
    go_wp2
    go_ret
    exact ⟨by rw [HX.out]; rfl, fin.out _ rfl⟩
  · have c2 : 0 ≤ page := by omega
    by_cases c3 : (n : Int) ≤ page
    · have HX : Hid (inB n page = false) := by show _ = _; unfold inB; simp [c3]
      have c4 : ¬ page < (n : Int) := by omega
      clear c1 c3
      go_enter Try.func59, Try.ntmps59
      go_wp2
      go_ret
      exact ⟨by rw [HX.out]; rfl, fin.out _ rfl⟩
    · have HX : Hid (inB n page = true) := by show _ = _; unfold inB; simp [c1, c3]
      have c4 : page < (n : Int) := by omega
      clear c1 c3
      go_enter Try.func59, Try.ntmps59
      go_wp2
      go_ret
      exact ⟨by rw [HX.out]; rfl, fin.out _ rfl⟩
set_option maxHeartbeats 4000000 in
theorem idxStr_any (l : List ByteArray) (v : Value) (R : List Rng) (w : World) (hv : SlRd v 1 l.length (strRow l) R) (hR : RdIn w R) (hs256 : ∀ s ∈ l, s.size ≤ maxLen) (hl : l.length ≤ 64) :
    Calls Try.prog 79 #[v, .func (.func 67) #[] #[]] w fun e w' => ∃ r : Int, e = .returned (.int .i64 r) ∧ IdxIs (all256 l) r ∧ Below w.heap.size w w' := by
  obtain ⟨a, cap, rfl, hnc, hcm, hg⟩ := hv.open hR
  have HC : Hid (l.length ≤ cap ∧ cap ≤ maxLen) := ⟨hnc, hcm⟩
  have HS := Lib.hid hs256
  have HL := Lib.hid hl
  clear hv hR hnc hcm hs256 hl
  go_enter Try.func79, Try.ntmps79
  go_wp2_with fail
  go_loopw [8] (fun i wr => ∃ k : Nat, k ≤ l.length ∧ i = .int .i64 k ∧ (l.take k).all (fun s => decide (s.size = 256)) = true ∧ Below w.heap.size w wr) (fun i _ => l.length - (intOf i).toNat)
  case atStart => exact ⟨0, by omega, rfl, rfl, Below.refl _ _⟩
  case round =>
    obtain ⟨k, hk, rfl, hh, hb⟩ := hrel
    have HB := Lib.hid hb
    have HH := Lib.hid hh
    clear hb hh
    by_cases hlt : k < l.length
    · obtain ⟨g, off, rfl, hr⟩ := hg.out (by omega)
      have hcell : wr.cell? ⟨g, off + k, none⟩ = some (.string l[k]) := hr wr HB.out k _ (strRow_at l k hlt)
      have hki : (k : Int) < (l.length : Int) := by omega
      have hk0 : (0 : Int) ≤ (k : Int) := by omega
      have hkm : (k : Int) < 1000 := by have := HL.out; omega
      have hsz : (l[k].size : Int) ≤ 9223372036854775807 := by have := HS.out _ (List.getElem_mem hlt); unfold maxLen at this; omega
      have HLt := Lib.hid hlt
      by_cases hx : l[k].size = 256
      · have hxb : ((l[k].size : Int) != 256) = false := by simp [hx]
        have HX := Lib.hid (all_take (f := fun s => decide (s.size = 256)) hlt HH.out (decide_eq_true hx))
        clear hr hx hsz
        generalize l[k] = y at *
        go_wp2
        go_roundw
        case rel => exact ⟨k + 1, by omega, by go_num, HX.out, HB.out⟩
        case measure => simp [intOf]; omega
      · have hxb : ((l[k].size : Int) != 256) = true := by simp; omega
        have HX : Hid (all256 l = false) := by
          show _ = _
          exact all_no (f := fun s => decide (s.size = 256)) hlt (decide_eq_false hx)
        clear hr hx hsz
        generalize l[k] = y at *
        go_wp2
        go_ret
        exact ⟨(k : Int), rfl, by rw [HX.out]; show (0 : Int) ≤ k; omega, HB.out⟩
    · obtain rfl : k = l.length := by omega
      rw [List.take_length] at HH
      go_wp2
      go_ret
      exact ⟨-1, rfl, by rw [show all256 l = true from HH.out]; rfl, HB.out⟩
set_option maxHeartbeats 4000000 in
theorem validPages_any (l : List ByteArray) (v : Value) (R : List Rng) (w : World) (hv : SlRd v 1 l.length (strRow l) R) (hR : RdIn w R) (hs256 : ∀ s ∈ l, s.size ≤ maxLen) :
    Calls Try.prog 50 #[v] w fun e w' => e = .returned (.bool (!decide ((l.length : Int) < 1) && (!decide (64 < (l.length : Int)) && all256 l))) ∧ Below w.heap.size w w' := by
  have HI : Hid (l.length ≤ 64 → ∀ W, Below w.heap.size w W → Calls Try.prog 79 #[v, .func (.func 67) #[] #[]] W fun e w' => ∃ r : Int, e = .returned (.int .i64 r) ∧ IdxIs (all256 l) r ∧ Below W.heap.size W w') := fun hl W hb => idxStr_any l v R W hv (hR.below hb) hs256 hl
  obtain ⟨a, cap, rfl, hnc, hcm, hg⟩ := hv.open hR
  have HC : Hid (l.length ≤ cap ∧ cap ≤ maxLen) := ⟨hnc, hcm⟩
  clear hv hR hnc hcm hs256 hg
  by_cases c1 : (l.length : Int) < 1
  · have HX := Lib.hid c1
    go_enter Try.func50, Try.ntmps50
    go_wp2_with fail
    go_ret
    exact ⟨ret_bool (by simp [HX.out]), Below.refl _ _⟩
  by_cases c2 : 64 < (l.length : Int)
  · have HX := Lib.hid c2
    go_enter Try.func50, Try.ntmps50
    go_wp2_with fail
    go_ret
    exact ⟨ret_bool (by simp [HX.out]), Below.refl _ _⟩
  · have H1 := Lib.hid c1
    have H2 := Lib.hid c2
    have hcall := HI.out (by omega)
    clear HI
    go_enter Try.func50, Try.ntmps50
    go_wp2_with (first | (go_at_call 79; refine (hcall _ (Below.refl _ _)).mono ?_; rintro e w2 ⟨r, rfl, hr1, hb⟩) | go_in)
    all_goals (
      go_ret
      refine ⟨ret_bool ?_, hb⟩
      have e1 := H1.out
      have e2 := H2.out
      unfold IdxIs at hr1
      cases hall : all256 l
      · rw [hall, if_neg (by decide)] at hr1
        first | (simp [*]; done) | (exfalso; omega)
      · rw [hall, if_pos rfl] at hr1
        subst hr1
        first | (simp [e1, e2]; done) | (exfalso; omega) | simp_all)
end Go.Proofs.Ytlmbnofkmmehoaa
/- the program's check of the unreadable pages -/
namespace Go.Proofs.Ytlmbnofkmmehoaa
open Go.RowKit
set_option maxRecDepth 20000
set_option linter.unusedSimpArgs false
set_option linter.unusedVariables false

theorem isPage_dv {p u f : Value} {d : Dv} {R : List Rng} (page : Int) (w : World) (h : DvRd p u f d R) :
    Calls Try.prog 59 #[.agg (dvCells p d u f).toArray, .int .i64 page] w fun e w' => e = .returned (.bool (inB d.pages.length page)) ∧ Below w.heap.size w w' := by
  obtain ⟨pa, pc, rfl, _⟩ := h.pages
  obtain ⟨ua, uc, rfl, _⟩ := h.unread
  obtain ⟨fa, fc, rfl, _⟩ := h.faults
  exact isPage_any d pa ua fa pc uc fc page w
/-- what stood before the k-th one -/
def befI (l : List Int) (k : Nat) : Int := if k = 0 then -1 else l.getD (k - 1) 0
theorem unreadAt_prog {n : Nat} {l : List Int} {k : Nat} {y : Int} (hy : l.getD k 0 = y) (h0 : ∀ j, j < k → 0 ≤ l.getD j 0) :
    unreadAtB n l k = (!decide (y ≤ befI l k) && inB n y) := by
  unfold unreadAtB inB befI
  rw [hy]
  by_cases hk : k = 0
  · subst hk
    by_cases h1 : y < 0
    · simp [h1]
    · have h2 : ¬ y ≤ -1 := by omega
      simp [h1, h2]
  · have := h0 (k - 1) (by omega)
    rw [if_neg hk]
    have hk0 : 0 < k := by omega
    by_cases h1 : y < 0
    · simp [h1, hk0]
    · simp [h1, hk0, Bool.and_comm]
theorem unread_pos {n : Nat} {l : List Int} {k : Nat} (h : (List.range k).all (unreadAtB n l) = true) : ∀ j, j < k → 0 ≤ l.getD j 0 := by
  intro j hj
  have := (List.all_eq_true.1 h) j (List.mem_range.2 hj)
  unfold unreadAtB at this
  simp only [Bool.and_eq_true, Bool.not_eq_true', decide_eq_false_iff_not] at this
  omega
set_option maxHeartbeats 4000000 in
theorem validUn_any {p u f : Value} {d : Dv} {R : List Rng} (w : World) (h : DvRd p u f d R) (hR : RdIn w R) (hl : d.unread.length ≤ 1000) :
    Calls Try.prog 51 #[.agg (dvCells p d u f).toArray] w fun e w' => e = .returned (.bool (unreadB d)) ∧ Below w.heap.size w w' := by
  have HI : Hid (∀ page W, Calls Try.prog 59 #[.agg (dvCells p d u f).toArray, .int .i64 page] W fun e w' => e = .returned (.bool (inB d.pages.length page)) ∧ Below W.heap.size W w') := fun page W => isPage_dv page W h
  obtain ⟨fs, hud⟩ := under_dv
  have HUD := Lib.hid hud
  clear hud
  obtain ⟨pa, pc, rfl, hp1, _, hP2⟩ := h.pages.open hR
  obtain ⟨ua, uc, rfl, hu1, hu3, hU2⟩ := h.unread.open hR
  obtain ⟨fa, fc, rfl, hf1, _, hF2⟩ := h.faults.open hR
  have HC : Hid (d.unread.length ≤ uc ∧ uc ≤ maxLen) := ⟨hu1, hu3⟩
  have HL := Lib.hid hl
  clear h hR hP2 hF2 hl hu1 hu3
  have h1 := (Hp.start w).put 27 (dvCells (.slice pa d.pages.length pc) d (.slice ua d.unread.length uc) (.slice fa d.faults.length fc))
  have HS0 : Hid (Hp w [.ob w.heap.size 27 (dvCells (.slice pa d.pages.length pc) d (.slice ua d.unread.length uc) (.slice fa d.faults.length fc))] (w.alloc (.cells (dvCells (.slice pa d.pages.length pc) d (.slice ua d.unread.length uc) (.slice fa d.faults.length fc)).toArray 27))) := h1
  clear h1
  have b2 : (w.alloc (.cells (dvCells (.slice pa d.pages.length pc) d (.slice ua d.unread.length uc) (.slice fa d.faults.length fc)).toArray 27)).cell? ⟨w.heap.size, 2, none⟩ = some (.slice ua d.unread.length uc) := HS0.out.at 0 rfl 2 rfl
  go_enter Try.func51, Try.ntmps51
  go_wp2_with fail
  clear b2
  go_loopw [3, 9] (fun bf i wr => ∃ k : Nat, k ≤ d.unread.length ∧ bf = .int .i64 (befI d.unread k) ∧ i = .int .i64 k ∧ (List.range k).all (unreadAtB d.pages.length d.unread) = true ∧ Hp w [.ob w.heap.size 27 (dvCells (.slice pa d.pages.length pc) d (.slice ua d.unread.length uc) (.slice fa d.faults.length fc))] wr) (fun _ i _ => d.unread.length - (intOf i).toNat)
  case atStart => exact ⟨0, by omega, rfl, rfl, rfl, HS0.out⟩
  case round =>
    obtain ⟨k, hk, rfl, rfl, hh, hs⟩ := hrel
    clear HS0
    have HY := Lib.hid hs
    have HH := Lib.hid hh
    clear hs hh
    by_cases hlt : k < d.unread.length
    · obtain ⟨g, off, rfl, hr⟩ := hU2.out (by omega)
      obtain ⟨y, hy⟩ : ∃ y, d.unread[k] = y := ⟨_, rfl⟩
      have hcell : wr.cell? ⟨g, off + k, none⟩ = some (.int .i64 y) := by rw [← hy]; exact hr wr HY.out.old k _ (intRow_at d.unread k hlt)
      have hyD : d.unread.getD k 0 = y := by rw [List.getD_eq_getElem?_getD, List.getElem?_eq_getElem hlt]; exact hy
      have hki : (k : Int) < (d.unread.length : Int) := by omega
      have hk0 : (0 : Int) ≤ (k : Int) := by omega
      have hkm : (k : Int) < 1000 := by have := HL.out; omega
      have HAt := Lib.hid (unreadAt_prog (n := d.pages.length) hyD (unread_pos HH.out))
      have HNo : Hid (unreadAtB d.pages.length d.unread k = false → unreadB d = false) := fun h => range_no hlt h
      have HYes : Hid (unreadAtB d.pages.length d.unread k = true → (List.range (k + 1)).all (unreadAtB d.pages.length d.unread) = true) := fun h => range_take HH.out h
      have HBf : Hid (befI d.unread (k + 1) = y) := by show _ = _; unfold befI; rw [if_neg (by omega), Nat.add_sub_cancel]; exact hyD
      clear hr hy hyD
      generalize befI d.unread k = bf at *
      by_cases hA : y ≤ bf
      · have HX : Hid (unreadB d = false) := HNo.out (by rw [HAt.out]; simp [hA])
        clear HAt HNo HYes HBf
        go_wp2_with fail
        go_ret
        exact ⟨by rw [HX.out]; rfl, HY.out.old⟩
      · have hcall := HI.out y
        go_wp2_with (first | ((with_reducible refine wpList_load_ob_w 27 (.tmp 1) (w.heap.size) (dvCells (.slice pa d.pages.length pc) d (.slice (some ⟨g, off, none⟩) d.unread.length uc) (.slice fa d.faults.length fc)) 27 HUD.out ?_ ?_ ?_ ?_ ?_ ?_); (exact rfl); (exact rfl); (exact (HY.out).get 0 rfl); (exact rfl); (exact info_dv); simp only [Act.put, List.setIfInBounds_toArray, List.set_cons_zero, List.set_cons_succ]) | (go_at_call 59; refine (hcall _).mono ?_; rintro e w2 ⟨rfl, hb⟩))
        all_goals (have HB := Lib.hid (HY.out.calls hb); clear hb)
        · rename_i hin
          have HX : Hid (unreadB d = false) := HNo.out (by rw [HAt.out]; simp_all)
          go_ret
          exact ⟨by rw [HX.out]; rfl, HB.out.old⟩
        · have HX : Hid ((List.range (k + 1)).all (unreadAtB d.pages.length d.unread) = true) := HYes.out (by rw [HAt.out]; simp_all)
          go_roundw
          case rel => exact ⟨k + 1, by omega, by rw [HBf.out], by go_num, HX.out, HB.out⟩
          case measure => simp [intOf]; omega
    · obtain rfl : k = d.unread.length := by omega
      have HX : Hid (unreadB d = true) := HH.out
      clear HH
      go_wp2_with fail
      go_ret
      exact ⟨by rw [HX.out]; rfl, HY.out.old⟩
end Go.Proofs.Ytlmbnofkmmehoaa
/- the program's check of a fault -/
namespace Go.Proofs.Ytlmbnofkmmehoaa
open Go.RowKit
set_option maxRecDepth 20000
set_option linter.unusedSimpArgs false
set_option linter.unusedVariables false

theorem neq_flt {a b : Flt} (ha : GoodFlt a) (hb : GoodFlt b) (W : World) : Sem.run Try.prog (binOp .neq 29 (.agg (fltCells a).toArray) (.agg (fltCells b).toArray)) W = .ok (.bool (!sameV a b)) W := run_neq (equal_flt a b ha hb) W
/-- what the first test refuses -/
noncomputable def formB (x : Flt) : Bool := (redR x).2 && (sameV (redR x).1 x && !(decide (x.kind = 4) && decide (x.mask = 0)))
theorem red_good {x : Flt} (h : GoodFlt x) : GoodFlt (redR x).1 := by
  unfold redR
  split <;> (try exact ⟨h.kind, h.at_, wf0, wf0, wf0, wf0b⟩)
  split <;> (try exact ⟨h.kind, h.at_, wf0, wf0, wf0, wf0b⟩)
  split <;> (try exact ⟨h.kind, h.at_, wf0, h.target, wf0, wf0b⟩)
  split <;> (try exact ⟨h.kind, h.at_, wf0, wf0, h.byte, wf0b⟩)
  split <;> (try exact ⟨h.kind, h.at_, h.page, wf0, h.byte, h.mask⟩)
  split <;> (try exact ⟨h.kind, h.at_, h.page, wf0, wf0, wf0b⟩)
  exact ⟨wf0, wf0, wf0, wf0, wf0, wf0b⟩
theorem formB_shape (x : Flt) : formB x = shapeB x := by
  obtain ⟨k, t, p, g, b, m⟩ := x
  rw [Bool.eq_iff_iff]
  unfold formB
  rw [Bool.and_eq_true, Bool.and_eq_true, sameV_iff]
  unfold redR shapeB
  simp only
  by_cases k1 : k = 1
  · subst k1; simp only [Flt.mk.injEq, reduceIte, true_and, and_true, decide_eq_true_eq, Bool.and_eq_true, Bool.not_eq_true', decide_eq_false_iff_not, Bool.and_eq_false_iff, decide_not, Int.reduceEq, decide_true, decide_false, Bool.true_eq_false, false_or, Bool.false_and, not_false_eq_true]; omega
  by_cases k6 : k = 6
  · subst k6; simp only [Flt.mk.injEq, reduceIte, true_and, and_true, decide_eq_true_eq, Bool.and_eq_true, Bool.not_eq_true', decide_eq_false_iff_not, Bool.and_eq_false_iff, decide_not, Int.reduceEq, decide_true, decide_false, Bool.true_eq_false, false_or, Bool.false_and, not_false_eq_true]; omega
  by_cases k2 : k = 2
  · subst k2; simp only [Flt.mk.injEq, reduceIte, true_and, and_true, decide_eq_true_eq, Bool.and_eq_true, Bool.not_eq_true', decide_eq_false_iff_not, Bool.and_eq_false_iff, decide_not, Int.reduceEq, decide_true, decide_false, Bool.true_eq_false, false_or, Bool.false_and, not_false_eq_true]; omega
  by_cases k3 : k = 3
  · subst k3; simp only [Flt.mk.injEq, reduceIte, true_and, and_true, decide_eq_true_eq, Bool.and_eq_true, Bool.not_eq_true', decide_eq_false_iff_not, Bool.and_eq_false_iff, decide_not, Int.reduceEq, decide_true, decide_false, Bool.true_eq_false, false_or, Bool.false_and, not_false_eq_true]; omega
  by_cases k4 : k = 4
  · subst k4; simp only [Flt.mk.injEq, reduceIte, true_and, and_true, decide_eq_true_eq, Bool.and_eq_true, Bool.not_eq_true', decide_eq_false_iff_not, Bool.and_eq_false_iff, decide_not, Int.reduceEq, decide_true, decide_false, Bool.true_eq_false, false_or, Bool.false_and, not_false_eq_true]; omega
  by_cases k5 : k = 5
  · subst k5; simp only [Flt.mk.injEq, reduceIte, true_and, and_true, decide_eq_true_eq, Bool.and_eq_true, Bool.not_eq_true', decide_eq_false_iff_not, Bool.and_eq_false_iff, decide_not, Int.reduceEq, decide_true, decide_false, Bool.true_eq_false, false_or, Bool.false_and, not_false_eq_true]; omega
  · simp [k1, k2, k3, k4, k5, k6]
/-- the ranges, as the program asks -/
def rangesP (n : Nat) (w : Int) (x : Flt) : Bool := decide (w < x.at_) && (decide (x.at_ ≤ 1099511627776) && (inB n x.page && (inB n x.target && (decide (0 ≤ x.byte) && decide (x.byte < 256)))))
theorem rangesP_eq (n : Nat) (w : Int) (x : Flt) : rangesP n w x = rangesB n w x := by
  unfold rangesP rangesB inB
  rw [Bool.eq_iff_iff]
  simp only [Bool.and_eq_true, Bool.not_eq_true', decide_eq_true_eq, decide_eq_false_iff_not]
  constructor
  · rintro ⟨h1, h2, ⟨h3, h4⟩, ⟨h5, h6⟩, h7, h8⟩
    exact ⟨by omega, by omega, h3, h4, h5, h6, by omega, by omega⟩
  · rintro ⟨h1, h2, h3, h4, h5, h6, h7, h8⟩
    exact ⟨by omega, by omega, ⟨h3, h4⟩, ⟨h5, h6⟩, by omega, by omega⟩
end Go.Proofs.Ytlmbnofkmmehoaa
