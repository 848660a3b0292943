/- the walk of the reference's Decode -/
import Derived.Test.YtoceglomogcgcaaDoorPgDec2
import Derived.Test.YtoceglomogcgcaaDoorPgPlain
namespace Go.Proofs.YtoceglomogcgcaaDoor
open Go.RowKit

theorem rget_in (s : ByteArray) (a z : Nat) (w : World) (hs : s.size ≤ maxLen) (h1 : 1 ≤ z) (h8 : z ≤ 8) (hat : a + z ≤ s.size) :
    Calls Tryd.prog 48 #[.string s, .int .i64 a, .int .i64 z] w fun e w' => e = .returned (.tuple #[.int .i64 (wrap64 (leNum s a z)), .int .i64 0]) ∧ w = w' := by
  have := rget_any s a z w hs
  rw [show getR s a z = (wrap64 (leNum s a z), 0) from by
    unfold getR
    rw [if_neg (by omega), if_neg (by omega)]
    rfl] at this
  exact this
theorem partP_skip (s : ByteArray) (k : Nat) (h : k < 16) (hc : clAt s (12 + k * 13) = emptyCl) : partP s (k + 1) = partP s k := by
  rw [← partP_step s k h, hc]
  unfold partP
  simp only [Pg.mk.injEq, true_and]
  rw [show 16 - k = (16 - (k + 1)) + 1 from by omega, List.replicate_succ, List.set_append_right _ _ (by simp)]
  simp
set_option maxHeartbeats 8000000 in
set_option maxRecDepth 20000 in
theorem rdecode_any (s : ByteArray) (w : World) (hs : s.size ≤ maxLen) :
    Calls Tryd.prog 26 #[.string s] w (DecPost s w) := by
  have hm := hs
  unfold maxLen at hm
  obtain ⟨fs, hu⟩ := under_page
  have HU := Lib.hid hu
  clear hu
  have HZ0 := Lib.hid (size_pg (newPg 0) rfl)
  have HO0 := Lib.hid (oneCell_pg (newPg 0))
  have HR0 : Hid ((w.alloc (.cells (pgCells (newPg 0)).toArray 27)).heap[w.heap.size]? = some (.cells (pgCells (newPg 0)).toArray 27 (0, 0))) := heap_alloc_last w _
  have HB0 : Hid (Below w.heap.size w (w.alloc (.cells (pgCells (newPg 0)).toArray 27))) := (Below.refl _ _).alloc (Nat.le_refl _) _
  clear hs
  by_cases h1 : s.size = 256
  · have HS : Hid (s.size = 256) := h1
    have hb1 : ((s.size : Int) != 256) = false := by rw [h1]; rfl
    have hsi : (s.size : Int) = 256 := by omega
    clear h1 hm
    go_enter Tryd.func26, Tryd.ntmps26
    go_wp2_with (first | (refine wpList_alloc_page rfl rfl ?_))
    refine (rblank _).mono ?_
    rintro e w2 ⟨rfl, hb2⟩
    have HR2 : Hid (w2.heap[w.heap.size]? = some (.cells (pgCells (newPg 0)).toArray 27 (0, 0))) := (hb2.block _ (by simp)).trans HR0.out
    have HB2 := Lib.hid (HB0.out.trans (hb2.mono (by simp)))
    clear hb2 HR0 HB0
    by_cases h2 : s = zeroS 256
    · have HX : Hid (decR s = (newPg 0, 7)) := by show _ = _; unfold decR; rw [if_neg (by rw [HS.out]; decide), if_pos h2]
      have hbz : (s.toList == (zeroS 256).toList) = true := by rw [strBeq]; exact decide_eq_true h2
      clear h2
      generalize zeroS 256 = Z at *
      go_wp2_with (first | (refine wpList_build_zero rfl rfl ?_) | (refine wpList_store_row rfl 27 _ _ rfl w.heap.size (pgCells (newPg 0)).toArray rfl rfl 27 (pgCells (newPg 0)).toArray HR2.out (by rw [HZ0.out]; exact info_page) (by rw [HZ0.out]) HO0.out ?_))
      refine bodyPost_ret (results_page_tmp Tryd.results26 _ _ w.heap.size _ _ rfl (setRow_heap _ _ _ _ _ _ HR2.out) HU.out (by rw [HZ0.out]; exact info_page)) rfl ?_
      exact decPost_mk HX.out (below_setRow HB2.out (Nat.le_refl _) _)
    · have hbz : (s.toList == (zeroS 256).toList) = false := by rw [strBeq]; exact decide_eq_false h2
      have H2 := Lib.hid h2
      clear h2
      have hZ : ∃ Z, zeroS 256 = Z := ⟨_, rfl⟩
      obtain ⟨Z, hZ⟩ := hZ
      rw [hZ] at hbz ⊢
      have HZZ := Lib.hid hZ
      clear hZ
      have HS8 : Hid (s.extract 248 s.size = s.extract 248 256) := by show _ = _; rw [HS.out]
      have HR3 : Hid (w2.drew.heap[w.heap.size]? = some (.cells (pgCells (newPg 0)).toArray 27 (0, 0))) := HR2.out
      have HB3 : Hid (Below w.heap.size w w2.drew) := HB2.out.drew
      have HSM : Hid (s.size ≤ maxLen) := by show _ ≤ _; rw [HS.out]; unfold maxLen; omega
      by_cases h3 : s.extract 0 8 = s.extract 248 256
      · have hb3 : ((s.extract 0 8).toList == (s.extract 248 s.size).toList) = true := by rw [strBeq, HS8.out]; exact decide_eq_true h3
        have H3 := Lib.hid h3
        clear h3
        go_wp2_with fail
        go_region
        go_wp2_with fail
        clear HR2 HB2
        generalize w2.drew = w3 at *
        refine (rget_in s 244 4 _ HSM.out (by omega) (by omega) (by rw [HS.out]; omega)).mono ?_
        rintro e w3' ⟨rfl, rfl⟩
        have hgl := leNum_lt s 244 4
        obtain ⟨g, hg⟩ : ∃ g, wrap64 (leNum s 244 4) = g := ⟨_, rfl⟩
        have hgn : g = (leNum s 244 4 : Int) := by rw [← hg]; unfold wrap64; omega
        have hgw : IntKind.u32.wrap g = g := by rw [hgn]; unfold IntKind.wrap; simp [IntKind.bits, IntKind.signed]; omega
        rw [hg]
        have HGG := Lib.hid hg
        clear hg hgl hgn
        go_wp2_with fail
        refine (rsum_any (s.extract 0 244) _ (by rw [ByteArray.size_extract]; unfold maxLen; omega)).mono ?_
        rintro e w3' ⟨rfl, rfl⟩
        obtain ⟨q, hq⟩ : ∃ q, (Crc.sum (s.extract 0 244).data.toList).toNat = q := ⟨_, rfl⟩
        rw [hq]
        have HQQ := Lib.hid hq
        clear hq
        by_cases h4 : g = (q : Int)
        · have hb4 : (g != (q : Int)) = false := by rw [h4]; simp
          have H4 := Lib.hid h4
          clear h4
          have HD : Hid (decR s = if encR (parseR s) = (s, 0) then (parseR s, 0) else (newPg 0, 4)) := by
            show _ = _
            unfold decR
            rw [if_neg (by rw [HS.out]; decide), if_neg H2.out, if_neg (by rw [H3.out]; simp), if_neg (by rw [HGG.out, HQQ.out, H4.out]; simp)]
          have HLT3 : Hid (w.heap.size < w3.heap.size) := (Array.getElem?_eq_some_iff.1 HR3.out).1
          have HP0 : Hid (PgIn (w3.alloc (.cells (pgCells (newPg 0)).toArray 27)) w3.heap.size (newPg 0)) := heap_alloc_last w3 _
          have HR4 : Hid (PgIn (w3.alloc (.cells (pgCells (newPg 0)).toArray 27)) w.heap.size (newPg 0)) := (Below.heap_alloc _ _ _ HLT3.out).trans HR3.out
          have HB4 : Hid (Below w.heap.size w (w3.alloc (.cells (pgCells (newPg 0)).toArray 27))) := HB3.out.alloc HB3.out.size _
          go_wp2_with (first | (refine wpList_alloc_page rfl rfl ?_))
          have HPw : Hid (w.heap.size < w3.heap.size) := HLT3.out
          generalize (w3.alloc (.cells (pgCells (newPg 0)).toArray 27)) = w4 at *
          clear HR3 HB3
          generalize w3.heap.size = P at *
          refine (rget_in s 0 8 _ HSM.out (by omega) (by omega) (by rw [HS.out]; omega)).mono ?_
          rintro e w4' ⟨rfl, rfl⟩
          have a1 : w4.cell? ⟨P, 1, none⟩ = some (.int .i64 0) := HP0.out.cell 1
          have f1 := HP0.out.frozen 1
          have HP1 := Lib.hid (HP0.out.setLsn (wrap64 (leNum s 0 8)))
          have HR5 := Lib.hid (HR4.out.other (D := P) 1 (.int .i64 (wrap64 (leNum s 0 8))) (by have := HPw.out; omega))
          have HB5 := Lib.hid (HB4.out.setCell (p := ⟨P, 1, none⟩) (by have := HPw.out; simp; omega) (.int .i64 (wrap64 (leNum s 0 8))))
          go_wp2_with fail
          clear a1 f1 HP0 HR4 HB4
          generalize w4.setCell ⟨P, 1, none⟩ (.int .i64 (wrap64 (leNum s 0 8))) = w5 at *
          refine (rget_in s 8 4 _ HSM.out (by omega) (by omega) (by rw [HS.out]; omega)).mono ?_
          rintro e w5' ⟨rfl, rfl⟩
          have a1 : w5.cell? ⟨P, 0, none⟩ = some (.int .i64 0) := HP1.out.cell 0
          have f1 := HP1.out.frozen 0
          have HP2 : Hid (PgIn (w5.setCell ⟨P, 0, none⟩ (.int .i64 (wrap64 (leNum s 8 4)))) P (partP s 0)) := (heap_setCell_same w5 _ 0 _ _ _ HP1.out).trans rfl
          have HR6 := Lib.hid (HR5.out.other (D := P) 0 (.int .i64 (wrap64 (leNum s 8 4))) (by have := HPw.out; omega))
          have HB6 := Lib.hid (HB5.out.setCell (p := ⟨P, 0, none⟩) (by have := HPw.out; simp; omega) (.int .i64 (wrap64 (leNum s 8 4))))
          go_wp2_with fail
          clear a1 f1 HP1 HR5 HB5
          generalize w5.setCell ⟨P, 0, none⟩ (.int .i64 (wrap64 (leNum s 8 4))) = w6 at *
          go_loopw [7] (fun i wr => ∃ k : Nat, k ≤ 16 ∧ i = .int .i64 k ∧ PgIn wr P (partP s k) ∧ PgIn wr w.heap.size (newPg 0) ∧ Below w.heap.size w wr) (fun i _ => 16 - (intOf i).toNat)
          case atStart => exact ⟨0, by omega, rfl, HP2.out, HR6.out, HB6.out⟩
          case round =>
            obtain ⟨k, hk, rfl, hp, hr, hb⟩ := hrel
            have HP := Lib.hid hp
            have HR : Hid (wr.heap[w.heap.size]? = some (.cells (pgCells (newPg 0)).toArray 27 (0, 0))) := hr
            have HB := Lib.hid hb
            clear hp hr hb
            by_cases hlt : k < 16
            · have HSt := Lib.hid (partP_step s k hlt)
              have HLen := Lib.hid (partP_length s k hk)
              have hkl : k < (partP s k).cells.length := by rw [HLen.out]; exact hlt
              have HKL := Lib.hid hkl
              have hin : 12 + k * 13 < s.size := by rw [HS.out]; omega
              have hbn : s[12 + k * 13].toNat = lenAt s (12 + k * 13) := by unfold lenAt; rw [getD_at s _ hin]
              have hb8 := lenAt_lt s (12 + k * 13)
              have hwr : IntKind.i64.wrap (s[12 + k * 13].toNat : Int) = ((lenAt s (12 + k * 13) : Nat) : Int) := by rw [hbn]; exact IntWalk.i64_in _ (by omega)
              have HSk : Hid (clAt s (12 + k * 13) = emptyCl → partP s (k + 1) = partP s k) := fun h => partP_skip s k hlt h
              have HLR : Hid (¬ (lenAt s (12 + k * 13) ≤ 12 ∨ lenAt s (12 + k * 13) = 255) → decR s = (newPg 0, 4)) := fun h => by
                rw [HD.out, if_neg (fun e => h (long_refused e k hlt))]
              have HCl : Hid (clAt s (12 + k * 13) = if lenAt s (12 + k * 13) = 255 then emptyCl else ⟨true, s.extract (12 + k * 13 + 1) (12 + k * 13 + 1 + min (lenAt s (12 + k * 13)) 12)⟩) := rfl
              generalize lenAt s (12 + k * 13) = n at *
              generalize clAt s (12 + k * 13) = c at *
              have HLT : Hid (k < 16) := hlt
              by_cases h255 : n = 255
              · have hS1 : partP s (k + 1) = partP s k := HSk.out (by rw [HCl.out, if_pos h255])
                have HS1 := Lib.hid hS1
                have hb255 : ((n : Int) == 255) = true := by rw [h255]; rfl
                clear h255 hS1 hbn
                go_wp2_with fail
                go_roundw
                case rel => exact ⟨k + 1, by omega, by go_num, by rw [HS1.out]; exact HP.out, HR.out, HB.out⟩
                case measure => simp [intOf]; omega
              · have hb255 : ((n : Int) == 255) = false := by rw [beq_eq_false_iff_ne]; omega
                by_cases h12 : n ≤ 12
                · have hi12 : ¬ (12 < (n : Int)) := by omega
                  have hC : c = ⟨true, s.extract (12 + k * 13 + 1) (12 + k * 13 + 1 + n)⟩ := by rw [HCl.out, if_neg h255, Nat.min_eq_left h12]
                  rw [hC] at HSt
                  have c0 := (HP.out.get hkl).1
                  have c1 := (HP.out.get hkl).2
                  have f0 := HP.out.frozen (2 + k * 2)
                  have f1 := HP.out.frozen (2 + k * 2 + 1)
                  generalize (partP s k).cells[k] = old at c0 c1
                  have hi12' : (n : Int) ≤ 12 := by omega
                  clear hC h255 hbn hkl
                  go_wp2_with fail
                  go_roundw
                  case rel => exact ⟨k + 1, by omega, by go_num, by rw [← HSt.out]; exact HP.out.setCell HKL.out ⟨true, _⟩, (PgIn.other HR.out _ _ (by have := HPw.out; omega)).other _ _ (by have := HPw.out; omega), (HB.out.setCell (p := ⟨P, _, none⟩) (by have := HPw.out; simp; omega) _).setCell (p := ⟨P, _, none⟩) (by have := HPw.out; simp; omega) _⟩
                  case measure => simp [intOf]; omega
                · have hi12 : 12 < (n : Int) := by omega
                  have HX : Hid (decR s = (newPg 0, 4)) := HLR.out (by omega)
                  clear h255 hbn h12
                  go_wp2_with (first | (refine wpList_build_zero rfl rfl ?_) | (refine wpList_store_row rfl 27 _ _ rfl w.heap.size (pgCells (newPg 0)).toArray rfl rfl 27 (pgCells (newPg 0)).toArray HR.out (by rw [HZ0.out]; exact info_page) (by rw [HZ0.out]) HO0.out ?_))
                  refine bodyPost_ret (results_page_tmp Tryd.results26 _ _ w.heap.size _ _ rfl (setRow_heap _ _ _ _ _ _ HR.out) HU.out (by rw [HZ0.out]; exact info_page)) rfl ?_
                  exact decPost_mk HX.out (below_setRow HB.out (Nat.le_refl _) _)
            · obtain rfl : k = 16 := by omega
              rw [partP_full] at HP
              have hlen : (parseR s).cells.length = 16 := by simp [parseR]
              have hsm : ∀ c ∈ (parseR s).cells, c.data.size ≤ maxLen := parseR_small s
              have HZq := Lib.hid (size_pg (parseR s) hlen)
              have HOq := Lib.hid (oneCell_pg (parseR s))
              have HEn : Hid (∀ w' : World, Calls Tryd.prog 16 #[.agg (pgCells (parseR s)).toArray] w' fun e w'' => e = .returned (.tuple #[.string (encR (parseR s)).1, .int .i64 (encR (parseR s)).2]) ∧ Below w'.heap.size w' w'') := fun w' => rencode (parseR s) w' hlen hsm
              have HG5 : Hid (wr.heap[P]? = some (.cells (pgCells (parseR s)).toArray 27 (0, 0))) := HP.out
              clear hlen hsm
              generalize hpp : parseR s = p at *
              have HPP := Lib.hid hpp
              clear hpp
              go_wp2_with (first | (refine wpList_load_row rfl 27 _ rfl P rfl 27 _ (0, 0) _ HG5.out HU.out rfl (by rw [HZq.out]; exact info_page) ?_))
              refine (HEn.out _).mono ?_
              rintro e w7 ⟨rfl, hb7⟩
              have HR7 : Hid (w7.heap[w.heap.size]? = some (.cells (pgCells (newPg 0)).toArray 27 (0, 0))) := (hb7.block _ (Array.getElem?_eq_some_iff.1 HR.out).1).trans HR.out
              have HG7 : Hid (w7.heap[P]? = some (.cells (pgCells p).toArray 27 (0, 0))) := (hb7.block _ (Array.getElem?_eq_some_iff.1 HG5.out).1).trans HG5.out
              have HB7 := Lib.hid (HB.out.trans (hb7.mono HB.out.size))
              clear hb7
              generalize hen : encR p = en at *
              obtain ⟨t, n⟩ := en
              have HEE := Lib.hid hen
              clear hen
              by_cases h5 : n = 0
              · by_cases h6 : t = s
                · have HX : Hid (decR s = (p, 0)) := by show _ = _; rw [HD.out, h5, h6, if_pos rfl]
                  have hbn : (n != 0) = false := by rw [h5]; rfl
                  have hbt : (t.toList == s.toList) = true := by rw [strBeq]; exact decide_eq_true h6
                  clear h5 h6
                  go_wp2_with (first | (refine wpList_load_row rfl 27 _ rfl P rfl 27 _ (0, 0) _ HG7.out HU.out rfl (by rw [HZq.out]; exact info_page) ?_) | (refine wpList_store_row rfl 27 _ _ rfl w.heap.size (pgCells p).toArray rfl rfl 27 (pgCells (newPg 0)).toArray HR7.out (by rw [HZq.out]; exact info_page) (by rw [HZq.out, HZ0.out]) HOq.out ?_))
                  refine bodyPost_ret (results_page_tmp Tryd.results26 _ _ w.heap.size _ _ rfl (setRow_heap _ _ _ _ _ _ HR7.out) HU.out (by rw [HZq.out]; exact info_page)) rfl ?_
                  exact decPost_mk HX.out (below_setRow HB7.out (Nat.le_refl _) _)
                · have HX : Hid (decR s = (newPg 0, 4)) := by show _ = _; rw [HD.out, if_neg (by rintro h; cases h; exact h6 rfl)]
                  have hbn : (n != 0) = false := by rw [h5]; rfl
                  have hbt : (t.toList == s.toList) = false := by rw [strBeq]; exact decide_eq_false h6
                  clear h5 h6
                  go_wp2_with (first | (refine wpList_build_zero rfl rfl ?_) | (refine wpList_store_row rfl 27 _ _ rfl w.heap.size (pgCells (newPg 0)).toArray rfl rfl 27 (pgCells (newPg 0)).toArray HR7.out (by rw [HZ0.out]; exact info_page) (by rw [HZ0.out]) HO0.out ?_))
                  refine bodyPost_ret (results_page_tmp Tryd.results26 _ _ w.heap.size _ _ rfl (setRow_heap _ _ _ _ _ _ HR7.out) HU.out (by rw [HZ0.out]; exact info_page)) rfl ?_
                  exact decPost_mk HX.out (below_setRow HB7.out (Nat.le_refl _) _)
              · have HX : Hid (decR s = (newPg 0, 4)) := by show _ = _; rw [HD.out, if_neg (by rintro h; cases h; exact h5 rfl)]
                have hbn : (n != 0) = true := by rw [bne_iff_ne]; exact h5
                clear h5
                go_wp2_with (first | (refine wpList_build_zero rfl rfl ?_) | (refine wpList_store_row rfl 27 _ _ rfl w.heap.size (pgCells (newPg 0)).toArray rfl rfl 27 (pgCells (newPg 0)).toArray HR7.out (by rw [HZ0.out]; exact info_page) (by rw [HZ0.out]) HO0.out ?_))
                refine bodyPost_ret (results_page_tmp Tryd.results26 _ _ w.heap.size _ _ rfl (setRow_heap _ _ _ _ _ _ HR7.out) HU.out (by rw [HZ0.out]; exact info_page)) rfl ?_
                exact decPost_mk HX.out (below_setRow HB7.out (Nat.le_refl _) _)
        · have HX : Hid (decR s = (newPg 0, 3)) := by
            show _ = _
            unfold decR
            rw [if_neg (by rw [HS.out]; decide), if_neg H2.out, if_neg (by rw [H3.out]; simp), if_pos (by rw [HGG.out, HQQ.out]; exact h4)]
          have hb4 : (g != (q : Int)) = true := by rw [bne_iff_ne]; exact h4
          clear h4
          go_wp2_with (first | (refine wpList_build_zero rfl rfl ?_) | (refine wpList_store_row rfl 27 _ _ rfl w.heap.size (pgCells (newPg 0)).toArray rfl rfl 27 (pgCells (newPg 0)).toArray HR3.out (by rw [HZ0.out]; exact info_page) (by rw [HZ0.out]) HO0.out ?_))
          refine bodyPost_ret (results_page_tmp Tryd.results26 _ _ w.heap.size _ _ rfl (setRow_heap _ _ _ _ _ _ HR3.out) HU.out (by rw [HZ0.out]; exact info_page)) rfl ?_
          exact decPost_mk HX.out (below_setRow HB3.out (Nat.le_refl _) _)
      · have HX : Hid (decR s = (newPg 0, 27)) := by show _ = _; unfold decR; rw [if_neg (by rw [HS.out]; decide), if_neg H2.out, if_pos h3]
        have hb3 : ((s.extract 0 8).toList == (s.extract 248 s.size).toList) = false := by rw [strBeq, HS8.out]; exact decide_eq_false h3
        clear h3
        go_wp2_with fail
        go_region
        go_wp2_with (first | (refine wpList_build_zero rfl rfl ?_) | (refine wpList_store_row rfl 27 _ _ rfl w.heap.size (pgCells (newPg 0)).toArray rfl rfl 27 (pgCells (newPg 0)).toArray HR3.out (by rw [HZ0.out]; exact info_page) (by rw [HZ0.out]) HO0.out ?_))
        refine bodyPost_ret (results_page_tmp Tryd.results26 _ _ w.heap.size _ _ rfl (setRow_heap _ _ _ _ _ _ HR3.out) HU.out (by rw [HZ0.out]; exact info_page)) rfl ?_
        exact decPost_mk HX.out (below_setRow HB3.out (Nat.le_refl _) _)
  · have hX : decR s = (newPg 0, 2) := if_pos h1
    have HX := Lib.hid hX
    have hb1 : ((s.size : Int) != 256) = true := by rw [bne_iff_ne]; omega
    clear h1 hX
    go_enter Tryd.func26, Tryd.ntmps26
    go_wp2_with (first | (refine wpList_alloc_page rfl rfl ?_) | (refine wpList_build_zero rfl rfl ?_) | (refine wpList_store_row rfl 27 _ _ rfl w.heap.size (pgCells (newPg 0)).toArray rfl rfl 27 (pgCells (newPg 0)).toArray HR0.out (by rw [HZ0.out]; exact info_page) (by rw [HZ0.out]) HO0.out ?_))
    refine bodyPost_ret (results_page_tmp Tryd.results26 _ _ w.heap.size _ _ rfl (setRow_heap _ _ _ _ _ _ HR0.out) HU.out (by rw [HZ0.out]; exact info_page)) rfl ?_
    exact decPost_mk HX.out (below_setRow HB0.out (Nat.le_refl _) _)
end Go.Proofs.YtoceglomogcgcaaDoor
