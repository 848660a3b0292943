/- the walk of the program's Decode -/
import Derived.Test.YtoceglomogcgcaaDoorPgDec
namespace Go.Proofs.YtoceglomogcgcaaDoor
open Go.RowKit

theorem build_zero (w : World) : Sem.run Tryd.prog (Instr.build 27 #[]) w = .ok (.agg (pgCells (newPg 0)).toArray) w := by kernel_rfl
theorem wpList_build_zero {ops : Array Oper} {rest : List Oper} {o : Oper} {a : Act} {w : World} {Q : Exit → Act → World → Prop} (hg : o.guard = none) (ho : o.op = .build 27 #[])
    (h : wpList Tryd.prog ops Q rest (a.put o.dst (.agg (pgCells (newPg 0)).toArray)) w) : wpList Tryd.prog ops Q (o :: rest) a w :=
  wpList_plain hg fun K hK => by
    unfold Oper.wp execOp
    have hb := build_zero w
    simp only [ho, List.map_toArray, List.map_nil, Sem.run_bind, hb, Result.andThen_ok, Sem.run_pure]
    exact hK _ _ h
/-- a page and an error, as the results -/
theorem results_page_tmp {fn : Func} {p u : Tmp} (h : fn.results = #[.cell p 27, .tmp u]) (tmps : Array Value) (w : World) (g : Nat) (cs : Array Value) (fs : Array Field)
    (hp : tmps.getD p undef = .pointer (some ⟨g, 0, none⟩)) (hg : w.heap[g]? = some (.cells cs 27 (0, 0))) (hu : Tryd.prog.underlying 27 = some (.struct fs)) (hi : (Tryd.prog.info? 27).map (·.size) = some cs.size) :
    (results fn tmps).run Tryd.prog w = .ok (.tuple #[.agg cs, tmps.getD u undef]) w := by
  rw [results_cell_tmp h, hp]
  simp [asAddr, run_loadVar_row w g _ 27 cs (0, 0) _ hg hu rfl hi, Result.andThen]
def decR (s : ByteArray) : Pg × Int :=
  if s.size ≠ 256 then (newPg 0, 2) else if s = zeroS 256 then (newPg 0, 7) else if s.extract 0 8 ≠ s.extract 248 256 then (newPg 0, 27)
  else if wrap64 (leNum s 244 4) ≠ ((Crc.sum (s.extract 0 244).data.toList).toNat : Int) then (newPg 0, 3)
  else if encR (parseR s) = (s, 0) then (parseR s, 0) else (newPg 0, 4)
def DecPost (s : ByteArray) (w : World) (e : Ending) (w' : World) : Prop := e = .returned (.tuple #[pgV (decR s).1, .int .i64 (decR s).2]) ∧ Below w.heap.size w w'
theorem decPost_mk {s : ByteArray} {w w' : World} {q : Pg} {n : Int} (h : decR s = (q, n)) (hb : Below w.heap.size w w') : DecPost s w (.returned (.tuple #[.agg (pgCells q).toArray, .int .i64 n])) w' := ⟨by rw [h]; rfl, hb⟩
theorem strBeq (a b : ByteArray) : (a.toList == b.toList) = decide (a = b) := by
  rw [Bool.eq_iff_iff, beq_iff_eq, decide_eq_true_iff, ByteArray.toList_eq, ByteArray.toList_eq]
  constructor
  · intro h; exact str_eq h
  · rintro rfl; rfl
theorem clAt_small (s : ByteArray) (a : Nat) : (clAt s a).data.size ≤ 12 := by
  unfold clAt
  by_cases h : lenAt s a = 255
  · rw [if_pos h]; decide
  · rw [if_neg h]; simp only [ByteArray.size_extract]; omega
theorem parseR_small (s : ByteArray) : ∀ c ∈ (parseR s).cells, c.data.size ≤ maxLen := by
  intro c hc
  simp only [parseR, List.mem_map] at hc
  obtain ⟨j, _, rfl⟩ := hc
  have := clAt_small s (12 + j * 13)
  unfold maxLen; omega
set_option maxHeartbeats 4000000 in
theorem decode_any (s : ByteArray) (w : World) (hs : s.size ≤ maxLen) (ht : TabAt w) :
    Calls Tryd.prog 25 #[.string s] w (DecPost s w) := by
  have hm := hs
  unfold maxLen at hm
  obtain ⟨fs, hu⟩ := under_page
  have HU := Lib.hid hu
  clear hu
  have HZ0 := Lib.hid (size_pg (newPg 0) rfl)
  have HO0 := Lib.hid (oneCell_pg (newPg 0))
  have HR0 : Hid ((w.alloc (.cells (pgCells (newPg 0)).toArray 27)).heap[w.heap.size]? = some (.cells (pgCells (newPg 0)).toArray 27 (0, 0))) := heap_alloc_last w _
  have HB0 : Hid (Below w.heap.size w (w.alloc (.cells (pgCells (newPg 0)).toArray 27))) := (Below.refl _ _).alloc (Nat.le_refl _) _
  have HT := Lib.hid ht
  clear ht hs
  by_cases h1 : s.size = 256
  · have HS : Hid (s.size = 256) := h1
    have hb1 : ((s.size : Int) != 256) = false := by rw [h1]; rfl
    have hsi : (s.size : Int) = 256 := by omega
    clear h1 hm
    go_enter Tryd.func25, Tryd.ntmps25
    go_wp2_with (first | (refine wpList_alloc_page rfl rfl ?_))
    refine (blank_any _).mono ?_
    rintro e w2 ⟨rfl, hb2⟩
    have HR2 : Hid (w2.heap[w.heap.size]? = some (.cells (pgCells (newPg 0)).toArray 27 (0, 0))) := (hb2.block _ (by simp)).trans HR0.out
    have HB2 := Lib.hid (HB0.out.trans (hb2.mono (by simp)))
    have HZS : Hid (zeroS 256 = zeroS 256) := rfl
    clear hb2 HR0 HB0
    by_cases h2 : s = zeroS 256
    · have HX : Hid (decR s = (newPg 0, 7)) := by show _ = _; unfold decR; rw [if_neg (by rw [HS.out]; decide), if_pos h2]
      have hbz : (s.toList == (zeroS 256).toList) = true := by rw [strBeq]; exact decide_eq_true h2
      clear h2
      generalize zeroS 256 = Z at *
      go_wp2_with (first | (refine wpList_build_zero rfl rfl ?_) | (refine wpList_store_row rfl 27 _ _ rfl w.heap.size (pgCells (newPg 0)).toArray rfl rfl 27 (pgCells (newPg 0)).toArray HR2.out (by rw [HZ0.out]; exact info_page) (by rw [HZ0.out]) HO0.out ?_))
      refine bodyPost_ret (results_page_tmp Tryd.results25 _ _ w.heap.size _ _ rfl (setRow_heap _ _ _ _ _ _ HR2.out) HU.out (by rw [HZ0.out]; exact info_page)) rfl ?_
      exact decPost_mk HX.out (below_setRow HB2.out (Nat.le_refl _) _)
    · have hbz : (s.toList == (zeroS 256).toList) = false := by rw [strBeq]; exact decide_eq_false h2
      have H2 := Lib.hid h2
      clear h2
      have hZ : ∃ Z, zeroS 256 = Z := ⟨_, rfl⟩
      obtain ⟨Z, hZ⟩ := hZ
      rw [hZ] at hbz ⊢
      have HZZ := Lib.hid hZ
      clear hZ
      have HS8 : Hid (s.extract 248 s.size = s.extract 248 256) := by show _ = _; rw [HS.out]
      have HR3 : Hid (w2.drew.heap[w.heap.size]? = some (.cells (pgCells (newPg 0)).toArray 27 (0, 0))) := HR2.out
      have HB3 : Hid (Below w.heap.size w w2.drew) := HB2.out.drew
      have HSM : Hid (s.size ≤ maxLen) := by show _ ≤ _; rw [HS.out]; unfold maxLen; omega
      by_cases h3 : s.extract 0 8 = s.extract 248 256
      · have hb3 : ((s.extract 0 8).toList == (s.extract 248 s.size).toList) = true := by rw [strBeq, HS8.out]; exact decide_eq_true h3
        have H3 := Lib.hid h3
        clear h3
        go_wp2_with fail
        go_region
        go_wp2_with fail
        clear HR2 HB2
        generalize w2.drew = w3 at *
        refine (get_in s 244 4 _ HSM.out (by omega) (by omega) (by rw [HS.out]; omega)).mono ?_
        rintro e w3' ⟨rfl, rfl⟩
        go_wp2_with fail
        have HQ : Hid (((Crc.sum (s.extract 0 244).data.toList).toNat : Int) = ((Crc.sum (s.extract 0 244).data.toList).toNat : Int)) := rfl
        refine (sum_any (s.extract 0 244) _ (by rw [ByteArray.size_extract]; unfold maxLen; omega) (HT.out.below HB3.out)).mono ?_
        rintro e w3' ⟨rfl, rfl⟩
        have hq0 := (Crc.sum (s.extract 0 244).data.toList).isLt
        obtain ⟨q, hq⟩ : ∃ q, (Crc.sum (s.extract 0 244).data.toList).toNat = q := ⟨_, rfl⟩
        rw [hq] at hq0 ⊢
        have HQQ := Lib.hid hq
        clear hq
        have hqw : IntKind.i64.wrap (q : Int) = (q : Int) := IntWalk.i64_in _ (by omega)
        have HQ0 := Lib.hid hq0
        clear hq0 HQ
        obtain ⟨g, hg⟩ : ∃ g, wrap64 (leNum s 244 4) = g := ⟨_, rfl⟩
        rw [hg]
        have HGG := Lib.hid hg
        clear hg
        by_cases h4 : g = (q : Int)
        · have hb4 : (g != (q : Int)) = false := by rw [h4]; simp
          have H4 := Lib.hid h4
          clear h4
          go_wp2_with fail
          refine (parse_any s _ HS.out).mono ?_
          rintro e w4 ⟨rfl, hb4'⟩
          have hlen : (parseR s).cells.length = 16 := by simp [parseR]
          have hsm : ∀ c ∈ (parseR s).cells, c.data.size ≤ maxLen := parseR_small s
          have HD : Hid (decR s = if encR (parseR s) = (s, 0) then (parseR s, 0) else (newPg 0, 4)) := by
            show _ = _
            unfold decR
            rw [if_neg (by rw [HS.out]; decide), if_neg H2.out, if_neg (by rw [H3.out]; simp), if_neg (by rw [HGG.out, HQQ.out, H4.out]; simp)]
          have HR4 : Hid (w4.heap[w.heap.size]? = some (.cells (pgCells (newPg 0)).toArray 27 (0, 0))) := (hb4'.block _ (Array.getElem?_eq_some_iff.1 HR3.out).1).trans HR3.out
          have HB4 := Lib.hid (HB3.out.trans (hb4'.mono HB3.out.size))
          have HLT4 : Hid (w.heap.size < w4.heap.size) := (Array.getElem?_eq_some_iff.1 HR4.out).1
          have HZq := Lib.hid (size_pg (parseR s) hlen)
          have HOq := Lib.hid (oneCell_pg (parseR s))
          have HEn : Hid (∀ w' : World, TabAt w' → Calls Tryd.prog 15 #[.agg (pgCells (parseR s)).toArray] w' fun e w'' => e = .returned (.tuple #[.string (encR (parseR s)).1, .int .i64 (encR (parseR s)).2]) ∧ Below w'.heap.size w' w'') := fun w' ht' => encode_any (parseR s) w' hlen hsm ht'
          have HPv : Hid (pgV (parseR s) = .agg (pgCells (parseR s)).toArray) := rfl
          clear hb4' hlen hsm HR3 HB3 hb4
          rw [HPv.out]
          generalize hpp : parseR s = p at *
          have HGa : Hid ((w4.alloc (.cells (pgCells (newPg 0)).toArray 27)).heap[w4.heap.size]? = some (.cells (pgCells (newPg 0)).toArray 27 (0, 0))) := heap_alloc_last w4 _
          have HG5 : Hid (((w4.alloc (.cells (pgCells (newPg 0)).toArray 27)).setRow w4.heap.size (pgCells p).toArray).heap[w4.heap.size]? = some (.cells (pgCells p).toArray 27 (0, 0))) := setRow_heap _ _ _ _ _ _ HGa.out
          have HR5 : Hid (((w4.alloc (.cells (pgCells (newPg 0)).toArray 27)).setRow w4.heap.size (pgCells p).toArray).heap[w.heap.size]? = some (.cells (pgCells (newPg 0)).toArray 27 (0, 0))) := (setRow_other _ _ _ _ (by have := HLT4.out; omega)).trans ((Below.heap_alloc _ _ _ HLT4.out).trans HR4.out)
          have HB5 : Hid (Below w.heap.size w ((w4.alloc (.cells (pgCells (newPg 0)).toArray 27)).setRow w4.heap.size (pgCells p).toArray)) := below_setRow (HB4.out.alloc HB4.out.size _) HB4.out.size _
          have HPP := Lib.hid hpp
          clear hpp
          go_wp2_with (first | (refine wpList_alloc_page rfl rfl ?_) | (refine wpList_store_row rfl 27 _ _ rfl w4.heap.size (pgCells p).toArray rfl rfl 27 (pgCells (newPg 0)).toArray HGa.out (by rw [HZq.out]; exact info_page) (by rw [HZq.out, HZ0.out]) HOq.out ?_) | (refine wpList_load_row rfl 27 _ rfl w4.heap.size rfl 27 _ (0, 0) _ HG5.out HU.out rfl (by rw [HZq.out]; exact info_page) ?_))
          clear HGa HR4 HB4
          generalize ((w4.alloc (.cells (pgCells (newPg 0)).toArray 27)).setRow w4.heap.size (pgCells p).toArray) = w5 at *
          refine (HEn.out _ (HT.out.below HB5.out)).mono ?_
          rintro e w6 ⟨rfl, hb6⟩
          have HR6 : Hid (w6.heap[w.heap.size]? = some (.cells (pgCells (newPg 0)).toArray 27 (0, 0))) := (hb6.block _ (Array.getElem?_eq_some_iff.1 HR5.out).1).trans HR5.out
          have HG6 : Hid (w6.heap[w4.heap.size]? = some (.cells (pgCells p).toArray 27 (0, 0))) := (hb6.block _ (Array.getElem?_eq_some_iff.1 HG5.out).1).trans HG5.out
          have HB6 := Lib.hid (HB5.out.trans (hb6.mono HB5.out.size))
          clear hb6 HR5 HB5 HG5
          generalize w4.heap.size = PB at *
          generalize hen : encR p = en at *
          obtain ⟨t, n⟩ := en
          have HEE := Lib.hid hen
          clear hen
          by_cases h5 : n = 0
          · by_cases h6 : t = s
            · have HX : Hid (decR s = (p, 0)) := by show _ = _; rw [HD.out, h5, h6, if_pos rfl]
              have hbn : (n != 0) = false := by rw [h5]; rfl
              have hbt : (t.toList == s.toList) = true := by rw [strBeq]; exact decide_eq_true h6
              clear h5 h6
              go_wp2_with (first | (refine wpList_load_row rfl 27 _ rfl PB rfl 27 _ (0, 0) _ HG6.out HU.out rfl (by rw [HZq.out]; exact info_page) ?_) | (refine wpList_store_row rfl 27 _ _ rfl w.heap.size (pgCells p).toArray rfl rfl 27 (pgCells (newPg 0)).toArray HR6.out (by rw [HZq.out]; exact info_page) (by rw [HZq.out, HZ0.out]) HOq.out ?_))
              refine bodyPost_ret (results_page_tmp Tryd.results25 _ _ w.heap.size _ _ rfl (setRow_heap _ _ _ _ _ _ HR6.out) HU.out (by rw [HZq.out]; exact info_page)) rfl ?_
              exact decPost_mk HX.out (below_setRow HB6.out (Nat.le_refl _) _)
            · have HX : Hid (decR s = (newPg 0, 4)) := by show _ = _; rw [HD.out, if_neg (by rintro h; cases h; exact h6 rfl)]
              have hbn : (n != 0) = false := by rw [h5]; rfl
              have hbt : (t.toList == s.toList) = false := by rw [strBeq]; exact decide_eq_false h6
              clear h5 h6
              go_wp2_with (first | (refine wpList_build_zero rfl rfl ?_) | (refine wpList_store_row rfl 27 _ _ rfl w.heap.size (pgCells (newPg 0)).toArray rfl rfl 27 (pgCells (newPg 0)).toArray HR6.out (by rw [HZ0.out]; exact info_page) (by rw [HZ0.out]) HO0.out ?_))
              refine bodyPost_ret (results_page_tmp Tryd.results25 _ _ w.heap.size _ _ rfl (setRow_heap _ _ _ _ _ _ HR6.out) HU.out (by rw [HZ0.out]; exact info_page)) rfl ?_
              exact decPost_mk HX.out (below_setRow HB6.out (Nat.le_refl _) _)
          · have HX : Hid (decR s = (newPg 0, 4)) := by show _ = _; rw [HD.out, if_neg (by rintro h; cases h; exact h5 rfl)]
            have hbn : (n != 0) = true := by rw [bne_iff_ne]; exact h5
            clear h5
            go_wp2_with (first | (refine wpList_build_zero rfl rfl ?_) | (refine wpList_store_row rfl 27 _ _ rfl w.heap.size (pgCells (newPg 0)).toArray rfl rfl 27 (pgCells (newPg 0)).toArray HR6.out (by rw [HZ0.out]; exact info_page) (by rw [HZ0.out]) HO0.out ?_))
            refine bodyPost_ret (results_page_tmp Tryd.results25 _ _ w.heap.size _ _ rfl (setRow_heap _ _ _ _ _ _ HR6.out) HU.out (by rw [HZ0.out]; exact info_page)) rfl ?_
            exact decPost_mk HX.out (below_setRow HB6.out (Nat.le_refl _) _)
        · have HX : Hid (decR s = (newPg 0, 3)) := by
            show _ = _
            unfold decR
            rw [if_neg (by rw [HS.out]; decide), if_neg H2.out, if_neg (by rw [H3.out]; simp), if_pos (by rw [HGG.out, HQQ.out]; exact h4)]
          have hb4 : (g != (q : Int)) = true := by rw [bne_iff_ne]; exact h4
          clear h4
          go_wp2_with (first | (refine wpList_build_zero rfl rfl ?_) | (refine wpList_store_row rfl 27 _ _ rfl w.heap.size (pgCells (newPg 0)).toArray rfl rfl 27 (pgCells (newPg 0)).toArray HR3.out (by rw [HZ0.out]; exact info_page) (by rw [HZ0.out]) HO0.out ?_))
          refine bodyPost_ret (results_page_tmp Tryd.results25 _ _ w.heap.size _ _ rfl (setRow_heap _ _ _ _ _ _ HR3.out) HU.out (by rw [HZ0.out]; exact info_page)) rfl ?_
          exact decPost_mk HX.out (below_setRow HB3.out (Nat.le_refl _) _)
      · have HX : Hid (decR s = (newPg 0, 27)) := by show _ = _; unfold decR; rw [if_neg (by rw [HS.out]; decide), if_neg H2.out, if_pos h3]
        have hb3 : ((s.extract 0 8).toList == (s.extract 248 s.size).toList) = false := by rw [strBeq, HS8.out]; exact decide_eq_false h3
        clear h3
        go_wp2_with fail
        go_region
        go_wp2_with (first | (refine wpList_build_zero rfl rfl ?_) | (refine wpList_store_row rfl 27 _ _ rfl w.heap.size (pgCells (newPg 0)).toArray rfl rfl 27 (pgCells (newPg 0)).toArray HR3.out (by rw [HZ0.out]; exact info_page) (by rw [HZ0.out]) HO0.out ?_))
        refine bodyPost_ret (results_page_tmp Tryd.results25 _ _ w.heap.size _ _ rfl (setRow_heap _ _ _ _ _ _ HR3.out) HU.out (by rw [HZ0.out]; exact info_page)) rfl ?_
        exact decPost_mk HX.out (below_setRow HB3.out (Nat.le_refl _) _)
  · have hX : decR s = (newPg 0, 2) := if_pos h1
    have HX := Lib.hid hX
    have hb1 : ((s.size : Int) != 256) = true := by rw [bne_iff_ne]; omega
    clear h1 hX
    go_enter Tryd.func25, Tryd.ntmps25
    go_wp2_with (first | (refine wpList_alloc_page rfl rfl ?_) | (refine wpList_build_zero rfl rfl ?_) | (refine wpList_store_row rfl 27 _ _ rfl w.heap.size (pgCells (newPg 0)).toArray rfl rfl 27 (pgCells (newPg 0)).toArray HR0.out (by rw [HZ0.out]; exact info_page) (by rw [HZ0.out]) HO0.out ?_))
    refine bodyPost_ret (results_page_tmp Tryd.results25 _ _ w.heap.size _ _ rfl (setRow_heap _ _ _ _ _ _ HR0.out) HU.out (by rw [HZ0.out]; exact info_page)) rfl ?_
    exact decPost_mk HX.out (below_setRow HB0.out (Nat.le_refl _) _)
end Go.Proofs.YtoceglomogcgcaaDoor
