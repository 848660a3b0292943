/- the choices of the drawing package: Device -/
import Derived.Test.YthcjkbhkidijoaaOm3
import Derived.Test.YthcjkbhkidijoaaOm4
import Derived.Deep.CutBlock
namespace Go.Proofs.Ythcjkbhkidijoaa
open Go.RowKit
set_option maxRecDepth 20000
set_option linter.unusedSimpArgs false
set_option linter.unusedVariables false

theorem inject_keep {d X : Dv} {c : Int} {f : Flt} (h : DvOk d) (hg : GoodFlt f) (e : injectR d f = (X, c)) (hc : c = 0) : DvOk X := by
  subst hc
  by_cases hf : fltOkB d.pages.length d.writes f = true
  · by_cases hl : d.faults.length = 64
    · unfold injectR at e
      rw [if_neg (by rw [h.ok]; decide), if_neg (by rw [hf]; decide), if_pos hl] at e
      exact absurd (Prod.mk.inj e).2 (by decide)
    · have h2 := inject_ok h hf hg (by have := h.few; omega)
      rw [h2.1] at e
      rw [← (Prod.mk.inj e).1]
      exact h2.2
  · unfold injectR at e
    rw [if_neg (by rw [h.ok]; decide), if_pos (by simpa using hf)] at e
    exact absurd (Prod.mk.inj e).2 (by decide)
theorem write_keep {d X : Dv} {c : Int} {p : Nat} {s : ByteArray} (h : DvOk d) (hs : s.size = 256) (e : writeR d p s = (X, c)) (hc : c = 0) : DvOk X := by
  subst hc
  by_cases hu : usableR d p = 0
  · have hd : d.dead = false ∧ p < d.pages.length := by
      unfold usableR at hu
      rw [if_neg (by rw [h.ok]; decide)] at hu
      split at hu
      · exact absurd hu (by decide)
      · rename_i hd
        split at hu
        · exact absurd hu (by decide)
        · exact ⟨by simpa using hd, by omega⟩
    by_cases hw : d.writes = 1099511627776
    · unfold writeR at e
      rw [if_neg (fun h => h hu), if_neg (fun h => h hs), if_pos hw] at e
      exact absurd (Prod.mk.inj e).2 (by decide)
    · have h2 := (write_ok h hd.1 hd.2 hs hw).2
      rw [e] at h2
      exact h2
  · unfold writeR at e
    rw [if_pos hu] at e
    exact absurd (Prod.mk.inj e).2 hu
def DevPost (C : Nat) (w : World) (e : Ending) (w' : World) : Prop := ∃ (d : Dv) (p u f : Value) (R : List Rng), e = .returned (.agg (dvCells p d u f).toArray) ∧ DvOk d ∧ DvRd p u f d R ∧ RdIn w' R ∧ (∀ r ∈ R, w.heap.size ≤ r.1) ∧ Besides C w w' ∧ CodesOk w' C
theorem fault_d (C : Nat) (n wr : Int) (w : World) (h : CodesOk w C) (hn : n ≤ 256) :
    Calls Try.prog 24 #[.pointer (some ⟨C, 0, none⟩), .int .i64 n, .int .i64 wr] w fun e w' => ∃ f : Flt, e = .returned (.agg (fltCells f).toArray) ∧ GoodFlt f ∧ Besides C w w' ∧ CodesOk w' C :=
  (fault_m (leftIn w C) C n wr w ⟨h, Nat.le_refl _⟩ hn).mono fun _ _ ⟨f, h1, h2, h3, h4⟩ => ⟨f, h2, h1, h3, h4.1⟩
set_option maxHeartbeats 16000000 in
theorem device_any (C : Nat) (w : World) (h : CodesOk w C) :
    Calls Try.prog 12 #[.pointer (some ⟨C, 0, none⟩)] w (DevPost C w) := by
  obtain ⟨fs, hud⟩ := under_dv
  have HUD := Lib.hid hud
  obtain ⟨fs2, huf⟩ := under_flt
  have HUF := Lib.hid huf
  clear hud huf
  have h1 := (DrH.start h).put 27 (dvCells nilS dvNil nilS nilS)
  have HS0 : Hid (DrH w C [.ob w.heap.size 27 (dvCells nilS dvNil nilS nilS)] (w.alloc (.cells #[.slice none 0 0, .int .i64 0, .slice none 0 0, .bool false, .slice none 0 0] 27))) := h1
  clear h h1
  go_enter Try.func12, Try.ntmps12
  go_upto_region 1 with (fail)
  have HS2 : Hid (DrH w C [.ob (w.heap.size) 27 (dvCells nilS dvNil nilS nilS)] (w.alloc (.cells #[.slice none 0 0, .int .i64 0, .slice none 0 0, .bool false, .slice none 0 0] 27))) := HS0.out
  clear HS0
  generalize w.alloc (.cells #[.slice none 0 0, .int .i64 0, .slice none 0 0, .bool false, .slice none 0 0] 27) = w3 at *
  go_wp2_with fail
  refine (next_any C 4 _ (HS2.out).codes (by omega)).mono ?_
  rintro e w4 ⟨n, rfl, n0, n1, hb, hc⟩
  have HS3 : Hid (DrH w C [.ob (w.heap.size) 27 (dvCells nilS dvNil nilS nilS)] w4) := (HS2.out).draws hb hc
  clear hb hc
  clear HS2
  obtain ⟨m, hm⟩ : ∃ m : Nat, 1 + n = (m : Int) := Int.eq_ofNat_of_zero_le (by omega)
  have hw : IntKind.i64.wrap (1 + n) = (m : Int) := by rw [← hm]; exact IntWalk.i64_in _ (by omega)
  obtain ⟨d0, e1, o1⟩ : ∃ d0, newR (m : Int) = (d0, 0) ∧ DvOk d0 := ⟨_, new_ok (n := m) (by omega)⟩
  have HE := Lib.hid e1
  have HO := Lib.hid o1
  clear e1 o1 hm n0 n1
  go_wp2_with fail
  refine (dv_as HE.out (rnew_any m _)).mono ?_
  rintro e w5 ⟨p0, u0, f0, R0, rfl, hrd, hin, hnew, hb⟩
  obtain ⟨ap0, cp0, rfl, _⟩ := hrd.pages
  obtain ⟨au0, cu0, rfl, _⟩ := hrd.unread
  obtain ⟨af0, cf0, rfl, _⟩ := hrd.faults
  have HDv0 := Lib.hid hrd
  have HS4 : Hid (DrH w C [.ob (w.heap.size) 27 (dvCells nilS dvNil nilS nilS), .rd R0] w5) := (HS3.out).addrd hb R0 hin (fun r hr => (hnew r hr).elim .inl (fun h => absurd h List.not_mem_nil))
  clear hb hin hnew hrd
  clear HS3
  go_wp2_with (first | ((with_reducible refine wpList_alloc_ob 27 (dvCells nilS dvNil nilS nilS) ?_ ?_); (exact alloc_dv); simp only [Act.put, List.setIfInBounds_toArray, List.set_cons_zero, List.set_cons_succ]) | ((with_reducible refine wpList_store_ob 27 (.tmp 3) (w5.heap.size) (dvCells (.slice ap0 d0.pages.length cp0) d0 (.slice au0 d0.unread.length cu0) (.slice af0 d0.faults.length cf0)) (dvCells nilS dvNil nilS nilS) 27 ?_ ?_ ?_ ?_ ?_ ?_ ?_); (exact rfl); (exact rfl); (exact ((HS4.out).put 27 (dvCells nilS dvNil nilS nilS)).get 2 rfl); (exact info_dv); (exact rfl); (exact (oneCell_dv _ _ _ _ _ _ _ _ _ _)); skip))
  refine (next_any C 6 _ (((HS4.out).put 27 (dvCells nilS dvNil nilS nilS)).row 2 rfl (dvCells (.slice ap0 d0.pages.length cp0) d0 (.slice au0 d0.unread.length cu0) (.slice af0 d0.faults.length cf0))).codes (by omega)).mono ?_
  rintro e w6 ⟨kn, rfl, k0, k1, hb, hc⟩
  have HS5 : Hid (DrH w C [.ob (w.heap.size) 27 (dvCells nilS dvNil nilS nilS), .rd R0, .ob (w5.heap.size) 27 (dvCells (.slice ap0 d0.pages.length cp0) d0 (.slice au0 d0.unread.length cu0) (.slice af0 d0.faults.length cf0))] w6) := (((HS4.out).put 27 (dvCells nilS dvNil nilS nilS)).row 2 rfl (dvCells (.slice ap0 d0.pages.length cp0) d0 (.slice au0 d0.unread.length cu0) (.slice af0 d0.faults.length cf0))).draws hb hc
  clear hb hc
  clear HS4
  generalize w5.heap.size = B1 at *
  have hk5 : kn ≤ 5 := by omega
  go_wp2_with fail
  have HS6 : Hid (DrH w C [.ob (w.heap.size) 27 (dvCells nilS dvNil nilS nilS), .rd R0, .ob B1 27 (dvCells (.slice ap0 d0.pages.length cp0) d0 (.slice au0 d0.unread.length cu0) (.slice af0 d0.faults.length cf0))] w6) := HS5.out
  clear HS5
  have HS7 : Hid (DrH w C [.ob (w.heap.size) 27 (dvCells nilS dvNil nilS nilS), .ob B1 27 (dvCells (.slice ap0 d0.pages.length cp0) d0 (.slice au0 d0.unread.length cu0) (.slice af0 d0.faults.length cf0)), .rd R0] w6) := HS6.out.pull [0, 2, 1] rfl (pull_nd HS6.out.nd [0, 2, 1] rfl (by decide))
  clear HS6
  go_loopw [5] (fun si wr => ∃ (d : Dv) (p u f : Value) (R : List Rng) (i : Int), si = .int .i64 i ∧ 0 ≤ i ∧ i ≤ 5 ∧ DvOk d ∧ DvRd p u f d R ∧ DrH w C [.ob w.heap.size 27 (dvCells nilS dvNil nilS nilS), .ob B1 27 (dvCells p d u f), .rd R] wr) (fun si _ => (intOf si).toNat)
  case atStart => exact ⟨d0, _, _, _, _, kn, rfl, k0, hk5, HO.out, HDv0.out, HS7.out⟩
  case round =>
    clear HDv0 HO HE hk5 k0 k1 hw HS7
    obtain ⟨d, p, u, f, R, i, rfl, hi9, hi5, hok, hda, hs⟩ := hrel
    obtain ⟨apa, cpa, rfl, _⟩ := hda.pages
    obtain ⟨aua, cua, rfl, _⟩ := hda.unread
    obtain ⟨afa, cfa, rfl, _⟩ := hda.faults
    have HOk := Lib.hid hok
    have HDa := Lib.hid hda
    have HQ := Lib.hid hs
    clear hda hs hok
    by_cases hi0 : 0 < i
    · have hiw : IntKind.i64.wrap (i - 1) = i - 1 := IntWalk.i64_in _ (by omega)
      have HI : Hid (0 < i ∧ i ≤ 5) := ⟨hi0, hi5⟩
      have HIw := Lib.hid hiw
      have hid0 : decide (0 < i) = true := decide_eq_true hi0
      have hii := hi0
      clear hiw hi0 hi5 hi9
      go_upto_region 5 with (fail)
      have HS61 : Hid (DrH w C [.ob (w.heap.size) 27 (dvCells nilS dvNil nilS nilS), .ob B1 27 (dvCells (.slice apa d.pages.length cpa) d (.slice aua d.unread.length cua) (.slice afa d.faults.length cfa)), .rd R] wr) := HQ.out
      clear HQ
      clear hii hid0
      have hpl : (d.pages.length : Int) ≤ 256 := by have := HOk.out.some; omega
      have HPl := Lib.hid hpl
      clear hpl
      refine wp_region_held_drew (S := fun w' => Hold w.heap.size [.ob B1 27 (dvCells (.slice apa d.pages.length cpa) d (.slice aua d.unread.length cua) (.slice afa d.faults.length cfa))] w') (by kernel_rfl) ((HS61.out).drew.pick [1] rfl) (fun hHeld => ?_)
      refine wpAnyH_take (i := 0) (oi := { dst := some 24, op := Op.load 27 (Operand.tmp 3), type := 27, pos := "draw.go:216", after := #[], guard := none }) rfl (by kernel_rfl) (by kernel_rfl) (by kernel_rfl) (fun _ _ _ h => h) (yieldsIf_load_mid (by rfl) 27 (.tmp 3) rfl B1 0 rfl (dvCells (.slice apa d.pages.length cpa) d (.slice aua d.unread.length cua) (.slice afa d.faults.length cfa)) _ (fun _ h => h.whole 0 rfl) HUD.out rfl (info_dv)) hHeld ?_
      try simp only [Act.put, List.setIfInBounds_toArray, List.set_cons_zero, List.set_cons_succ]
      refine wpAnyH_take (i := 1) (oi := { dst := some 25, op := Op.move (Operand.tmp 0), type := 32, pos := "draw.go:216", after := #[], guard := none }) (v := ?q2v) rfl (by kernel_rfl) (by kernel_rfl) (by kernel_rfl) (fun _ _ _ h => h) (Or.inl ⟨by rfl, ?q2h⟩) hHeld ?q2r
      case q2h => (intro wq hSw; clear hSw; go_simp; try with_reducible rfl)
      try simp only [Act.put, List.setIfInBounds_toArray, List.set_cons_zero, List.set_cons_succ]
      refine wpAnyH_take (i := 2) (oi := { dst := some 26, op := Op.fieldAddr 27 (Operand.tmp 3) 0, type := 0, pos := "draw.go:216", after := #[], guard := none }) (v := ?q3v) rfl (by kernel_rfl) (by kernel_rfl) (by kernel_rfl) (fun _ _ _ h => h) (Or.inl ⟨by rfl, ?q3h⟩) hHeld ?q3r
      case q3h => (intro wq hSw; clear hSw; go_simp; try with_reducible rfl)
      try simp only [Act.put, List.setIfInBounds_toArray, List.set_cons_zero, List.set_cons_succ]
      refine wpAnyH_take (i := 3) (oi := { dst := some 27, op := Op.load 23 (Operand.tmp 26), type := 23, pos := "draw.go:216", after := #[{ on := 2, ground := Ground.data }], guard := none }) (v := ?q4v) rfl (by kernel_rfl) (by kernel_rfl) (by kernel_rfl) (fun _ _ _ h => h) (Or.inl ⟨by rfl, ?q4h⟩) hHeld ?q4r
      case q4h => (intro wq hSw; have q0 := hSw.at 0 rfl 0 rfl; clear hSw; go_simp; try with_reducible rfl)
      try simp only [Act.put, List.setIfInBounds_toArray, List.set_cons_zero, List.set_cons_succ]
      refine wpAnyH_take (i := 4) (oi := { dst := some 28, op := Op.call { callee := Callee.builtin Builtin.len, args := #[Operand.tmp 27], argTypes := #[23] }, type := 3, pos := "draw.go:216", after := #[{ on := 3, ground := Ground.data }], guard := none }) (v := ?q5v) rfl (by kernel_rfl) (by kernel_rfl) (by kernel_rfl) (fun _ _ _ h => h) (Or.inl ⟨by rfl, ?q5h⟩) hHeld ?q5r
      case q5h => (intro wq hSw; clear hSw; go_simp; try with_reducible rfl)
      try simp only [Act.put, List.setIfInBounds_toArray, List.set_cons_zero, List.set_cons_succ]
      refine wpAnyH_take (i := 5) (oi := { dst := some 29, op := Op.fieldAddr 27 (Operand.tmp 3) 1, type := 0, pos := "draw.go:216", after := #[], guard := none }) (v := ?q6v) rfl (by kernel_rfl) (by kernel_rfl) (by kernel_rfl) (fun _ _ _ h => h) (Or.inl ⟨by rfl, ?q6h⟩) hHeld ?q6r
      case q6h => (intro wq hSw; clear hSw; go_simp; try with_reducible rfl)
      try simp only [Act.put, List.setIfInBounds_toArray, List.set_cons_zero, List.set_cons_succ]
      refine wpAnyH_take (i := 6) (oi := { dst := some 30, op := Op.load 3 (Operand.tmp 29), type := 3, pos := "draw.go:216", after := #[{ on := 5, ground := Ground.data }], guard := none }) (v := ?q7v) rfl (by kernel_rfl) (by kernel_rfl) (by kernel_rfl) (fun _ _ _ h => h) (Or.inl ⟨by rfl, ?q7h⟩) hHeld ?q7r
      case q7h => (intro wq hSw; have q1 := hSw.at 0 rfl 1 rfl; clear hSw; go_simp; try with_reducible rfl)
      try simp only [Act.put, List.setIfInBounds_toArray, List.set_cons_zero, List.set_cons_succ]
      refine wpAnyH_ready (rs := [7, 12]) (by kernel_rfl) (by simp) ?_
      refine AllReadyH.cons (o := { dst := some 31, op := Op.call { callee := Callee.value (Operand.func 24), args := #[Operand.tmp 25, Operand.tmp 28, Operand.tmp 30], argTypes := #[32, 3, 3] }, type := 29, pos := "draw.go:216", after := #[{ on := 1, ground := Ground.data }, { on := 4, ground := Ground.data }, { on := 6, ground := Ground.data }], guard := none }) rfl (fun K hK => ?_) (AllReadyH.cons (o := { dst := some 6, op := Op.alloc 27, type := 0, pos := "draw.go:216", after := #[], guard := none }) rfl (fun K hK => ?_) (AllReadyH.nil))
      · go_simp
        go_wp2_with (go_at_call 24; refine (fault_d C d.pages.length d.writes _ ((HS61.out).drew).codes HPl.out).mono ?_; rintro e w61 ⟨g, rfl, hgf, hb, hc⟩)
        have HS62 : Hid (DrH w C [.ob (w.heap.size) 27 (dvCells nilS dvNil nilS nilS), .ob B1 27 (dvCells (.slice apa d.pages.length cpa) d (.slice aua d.unread.length cua) (.slice afa d.faults.length cfa)), .rd R] w61) := ((HS61.out).drew).draws hb hc
        refine hK.out _ _ (HS62.out.pick [1] rfl) (fun hHeld => ?_)
        clear hK K hb hc
        have HGf := Lib.hid hgf
        obtain ⟨X, cX, hX⟩ : ∃ X cX, injectR d g = (X, cX) := ⟨_, _, rfl⟩
        have HX := Lib.hid hX
        clear hgf hX
        try simp only [Act.put, List.setIfInBounds_toArray, List.set_cons_zero, List.set_cons_succ]
        refine wpAnyH_ready (rs := [8, 12]) (by kernel_rfl) (by simp) ?_
        refine AllReadyH.cons (o := { dst := some 32, op := Op.call { callee := Callee.value (Operand.func 26), args := #[Operand.tmp 24, Operand.tmp 31], argTypes := #[27, 29] }, type := 36, pos := "draw.go:216", after := #[{ on := 0, ground := Ground.data }, { on := 7, ground := Ground.data }, { on := 7, ground := Ground.chain }], guard := none }) rfl (fun K hK => ?_) (AllReadyH.cons (o := { dst := some 6, op := Op.alloc 27, type := 0, pos := "draw.go:216", after := #[], guard := none }) rfl (fun K hK => ?_) (AllReadyH.nil))
        · go_simp
          go_wp2_with (go_at_call 26; refine (dv_as HX.out (rinject_any g _ HDa.out ((HS62.out).reads 2 rfl) HOk.out.goodDv HGf.out HOk.out.pg HOk.out.fl)).mono ?_; rintro e w62 ⟨px, ux, fx, Rx, rfl, hrd, hin, hnew, hb⟩)
          obtain ⟨apx, cpx, rfl, _⟩ := hrd.pages
          obtain ⟨aux, cux, rfl, _⟩ := hrd.unread
          obtain ⟨afx, cfx, rfl, _⟩ := hrd.faults
          have HDvx := Lib.hid hrd
          have HS63 : Hid (DrH w C [.ob (w.heap.size) 27 (dvCells nilS dvNil nilS nilS), .ob B1 27 (dvCells (.slice apa d.pages.length cpa) d (.slice aua d.unread.length cua) (.slice afa d.faults.length cfa)), .rd R, .rd Rx] w62) := (HS62.out).addrd hb Rx hin (fun r hr => (hnew r hr).elim .inl (fun h => .inr ⟨.rd R, List.mem_of_getElem? (i := 2) rfl, List.mem_map.2 ⟨r, h, rfl⟩⟩))
          refine hK.out _ _ (HS63.out.pick [1] rfl) (fun hHeld => ?_)
          clear hK K hb hin hnew hrd
          try simp only [Act.put, List.setIfInBounds_toArray, List.set_cons_zero, List.set_cons_succ]
          refine wpAnyH_take (i := 9) (oi := { dst := some 23, op := Op.move (Operand.tmp 32), type := 36, pos := "draw.go:216", after := #[{ on := 8, ground := Ground.data }], guard := none }) (v := ?q8v) rfl (by kernel_rfl) (by kernel_rfl) (by kernel_rfl) (fun _ _ _ h => h) (Or.inl ⟨by rfl, ?q8h⟩) hHeld ?q8r
          case q8h => (intro wq hSw; clear hSw; go_simp; try with_reducible rfl)
          try simp only [Act.put, List.setIfInBounds_toArray, List.set_cons_zero, List.set_cons_succ]
          refine wpAnyH_take (i := 10) (oi := { dst := some 33, op := Op.extract (Operand.tmp 23) 0, type := 27, pos := "draw.go:216", after := #[{ on := 9, ground := Ground.data }], guard := none }) (v := ?q9v) rfl (by kernel_rfl) (by kernel_rfl) (by kernel_rfl) (fun _ _ _ h => h) (Or.inl ⟨by rfl, ?q9h⟩) hHeld ?q9r
          case q9h => (intro wq hSw; clear hSw; go_simp; try with_reducible rfl)
          try simp only [Act.put, List.setIfInBounds_toArray, List.set_cons_zero, List.set_cons_succ]
          refine wpAnyH_take (i := 11) (oi := { dst := some 34, op := Op.extract (Operand.tmp 23) 1, type := 35, pos := "draw.go:216", after := #[{ on := 9, ground := Ground.data }, { on := 13, ground := Ground.gcOnly Departure.lateStores }], guard := none }) (v := ?q10v) rfl (by kernel_rfl) (by kernel_rfl) (by kernel_rfl) (fun _ _ _ h => h) (Or.inl ⟨by rfl, ?q10h⟩) hHeld ?q10r
          case q10h => (intro wq hSw; clear hSw; go_simp; try with_reducible rfl)
          try simp only [Act.put, List.setIfInBounds_toArray, List.set_cons_zero, List.set_cons_succ]
          refine wpAnyH_ready (rs := [12]) (by kernel_rfl) (by simp) ?_
          refine AllReadyH.cons (o := { dst := some 6, op := Op.alloc 27, type := 0, pos := "draw.go:216", after := #[], guard := none }) rfl (fun K hK => ?_) (AllReadyH.nil)
          rw [if_pos (by rfl)]
          refine wp_alloc_ob 27 (dvCells nilS dvNil nilS nilS) rfl alloc_dv ?_
          have HS64 : Hid (DrH w C [.ob (w.heap.size) 27 (dvCells nilS dvNil nilS nilS), .ob B1 27 (dvCells (.slice apa d.pages.length cpa) d (.slice aua d.unread.length cua) (.slice afa d.faults.length cfa)), .rd R, .rd Rx, .ob (w62.heap.size) 27 (dvCells nilS dvNil nilS nilS)] (w62.alloc (.cells (dvCells nilS dvNil nilS nilS).toArray 27))) := (HS63.out).put 27 (dvCells nilS dvNil nilS nilS)
          refine hK.out _ _ (HS64.out.pick [1] rfl) (fun hHeld => ?_)
          clear hK K
          generalize (w62.alloc (.cells (dvCells nilS dvNil nilS nilS).toArray 27)) = w63 at *
          generalize w62.heap.size = B2 at *
          try simp only [Act.put, List.setIfInBounds_toArray, List.set_cons_zero, List.set_cons_succ]
          refine wpAnyH_ready (rs := [13]) (by kernel_rfl) (by simp) ?_
          refine AllReadyH.cons (o := { dst := none, op := Op.store 27 (Operand.tmp 6) (Operand.tmp 33), type := 0, pos := "draw.go:216", after := #[{ on := 12, ground := Ground.data }, { on := 10, ground := Ground.data }, { on := 8, ground := Ground.chain }, { on := 0, ground := Ground.phase }, { on := 1, ground := Ground.phase }, { on := 2, ground := Ground.phase }, { on := 3, ground := Ground.phase }, { on := 4, ground := Ground.phase }, { on := 5, ground := Ground.phase }, { on := 6, ground := Ground.phase }, { on := 7, ground := Ground.phase }, { on := 8, ground := Ground.phase }, { on := 9, ground := Ground.phase }, { on := 10, ground := Ground.phase }, { on := 11, ground := Ground.textOnly Departure.lateStores }, { on := 12, ground := Ground.phase }], guard := none }) rfl (fun K hK => ?_) (AllReadyH.nil)
          rw [if_pos (by rfl)]
          refine wp_store_ob 27 (.tmp 6) (.tmp 33) B2 (dvCells (.slice apx X.pages.length cpx) X (.slice aux X.unread.length cux) (.slice afx X.faults.length cfx)) (dvCells nilS dvNil nilS nilS) 27 rfl rfl rfl rfl ((HS64.out).get 4 rfl) (info_dv) (rfl) ((oneCell_dv _ _ _ _ _ _ _ _ _ _)) ?_
          have HS65 : Hid (DrH w C [.ob (w.heap.size) 27 (dvCells nilS dvNil nilS nilS), .ob B1 27 (dvCells (.slice apa d.pages.length cpa) d (.slice aua d.unread.length cua) (.slice afa d.faults.length cfa)), .rd R, .rd Rx, .ob B2 27 (dvCells (.slice apx X.pages.length cpx) X (.slice aux X.unread.length cux) (.slice afx X.faults.length cfx))] (w63.setRow B2 (dvCells (.slice apx X.pages.length cpx) X (.slice aux X.unread.length cux) (.slice afx X.faults.length cfx)).toArray)) := (HS64.out).row 4 rfl (dvCells (.slice apx X.pages.length cpx) X (.slice aux X.unread.length cux) (.slice afx X.faults.length cfx))
          refine hK.out _ _ (HS65.out.pick [1] rfl) (fun hHeld => ?_)
          clear hK K
          generalize (w63.setRow B2 (dvCells (.slice apx X.pages.length cpx) X (.slice aux X.unread.length cux) (.slice afx X.faults.length cfx)).toArray) = w64 at *
          try simp only [Act.put, List.setIfInBounds_toArray, List.set_cons_zero, List.set_cons_succ]
          refine wpAnyH_take (i := 14) (oi := { dst := some 7, op := Op.assign (Operand.tmp 34), type := 35, pos := "draw.go:216", after := #[{ on := 11, ground := Ground.data }, { on := 13, ground := Ground.chain }, { on := 0, ground := Ground.phase }, { on := 1, ground := Ground.phase }, { on := 2, ground := Ground.phase }, { on := 3, ground := Ground.phase }, { on := 4, ground := Ground.phase }, { on := 5, ground := Ground.phase }, { on := 6, ground := Ground.phase }, { on := 7, ground := Ground.phase }, { on := 8, ground := Ground.phase }, { on := 9, ground := Ground.phase }, { on := 10, ground := Ground.phase }, { on := 11, ground := Ground.phase }, { on := 12, ground := Ground.phase }, { on := 13, ground := Ground.phase }], guard := none }) (v := ?q11v) rfl (by kernel_rfl) (by kernel_rfl) (by kernel_rfl) (fun _ _ _ h => h) (Or.inl ⟨by rfl, ?q11h⟩) hHeld ?q11r
          case q11h => (intro wq hSw; clear hSw; go_simp; try with_reducible rfl)
          try simp only [Act.put, List.setIfInBounds_toArray, List.set_cons_zero, List.set_cons_succ]
          refine wpAnyH_done (by kernel_rfl) ?_ _
          clear hHeld
          have HS66 : Hid (DrH w C [.ob (w.heap.size) 27 (dvCells nilS dvNil nilS nilS), .ob B1 27 (dvCells (.slice apa d.pages.length cpa) d (.slice aua d.unread.length cua) (.slice afa d.faults.length cfa)), .rd R, .rd Rx, .ob B2 27 (dvCells (.slice apx X.pages.length cpx) X (.slice aux X.unread.length cux) (.slice afx X.faults.length cfx))] w64) := HS65.out
          clear HS65
          have HS67 : Hid (DrH w C [.ob (w.heap.size) 27 (dvCells nilS dvNil nilS nilS), .ob B1 27 (dvCells (.slice apa d.pages.length cpa) d (.slice aua d.unread.length cua) (.slice afa d.faults.length cfa)), .rd R, .ob B2 27 (dvCells (.slice apx X.pages.length cpx) X (.slice aux X.unread.length cux) (.slice afx X.faults.length cfx)), .rd Rx] w64) := HS66.out.pull [0, 1, 2, 4, 3] rfl (pull_nd HS66.out.nd [0, 1, 2, 4, 3] rfl (by decide))
          clear HS66
          go_upto_region 6 with (fail)
          go_cut [41] (fun v wx => ∃ b : Bool, v = .bool b ∧ DrH w C [.ob (w.heap.size) 27 (dvCells nilS dvNil nilS nilS), .ob B1 27 (dvCells (.slice apa d.pages.length cpa) d (.slice aua d.unread.length cua) (.slice afa d.faults.length cfa)), .rd R, .ob B2 27 (dvCells (.slice apx X.pages.length cpx) X (.slice aux X.unread.length cux) (.slice afx X.faults.length cfx)), .rd Rx] wx ∧ (b = true → cX = 0))
          case first =>
            by_cases hc0 : cX = 0
            · have hcb : (cX == 0) = true := by rw [hc0]; rfl
              have HC0 := Lib.hid hc0
              clear hc0
              go_wp2_with fail
              refine (next_any C 2 _ (HS67.out).codes (by omega)).mono ?_
              rintro e w90 ⟨b, rfl, b0, b1, hb, hc⟩
              have HS90 : Hid (DrH w C [.ob (w.heap.size) 27 (dvCells nilS dvNil nilS nilS), .ob B1 27 (dvCells (.slice apa d.pages.length cpa) d (.slice aua d.unread.length cua) (.slice afa d.faults.length cfa)), .rd R, .ob B2 27 (dvCells (.slice apx X.pages.length cpx) X (.slice aux X.unread.length cux) (.slice afx X.faults.length cfx)), .rd Rx] w90) := (HS67.out).draws hb hc
              clear hb hc b0 b1
              go_wp2_with fail
              go_meet
              exact ⟨_, rfl, HS90.out, fun _ => HC0.out⟩
            · have hcb : (cX == 0) = false := by rw [beq_eq_false_iff_ne]; exact hc0
              clear hc0
              go_wp2_with fail
              go_meet
              exact ⟨false, rfl, HS67.out, fun h => absurd h (by decide)⟩
          case rest =>
            obtain ⟨b, rfl, hs, hbc⟩ := hcut
            clear HS67
            have HS91 := Lib.hid hs
            have HBc := Lib.hid hbc
            clear hs hbc
            generalize wc = w91 at *
            go_upto_if 41 with (fail)
            go_cut [] (fun wx => ∃ (d : Dv) (p u f : Value) (R : List Rng), DvOk d ∧ DvRd p u f d R ∧ DrH w C [.ob w.heap.size 27 (dvCells nilS dvNil nilS nilS), .ob B1 27 (dvCells p d u f), .rd R] wx)
            case first =>
              cases b
              · go_wp2_with fail
                go_meet
                exact ⟨d, _, _, _, _, HOk.out, HDa.out, (HS91.out).pull [0, 1, 2] rfl (pull_nd (HS91.out).nd [0, 1, 2] rfl (by decide))⟩
              · have HOx : Hid (DvOk X) := Lib.hid (inject_keep HOk.out HGf.out HX.out (HBc.out rfl))
                go_upto_region 7 with (fail)
                have HS93 : Hid (DrH w C [.ob (w.heap.size) 27 (dvCells nilS dvNil nilS nilS), .ob B1 27 (dvCells (.slice apa d.pages.length cpa) d (.slice aua d.unread.length cua) (.slice afa d.faults.length cfa)), .rd R, .ob B2 27 (dvCells (.slice apx X.pages.length cpx) X (.slice aux X.unread.length cux) (.slice afx X.faults.length cfx)), .rd Rx] w91) := HS91.out
                clear HS91
                go_wp2_with (first | ((with_reducible refine wpList_load_ob 27 (.tmp 6) B2 (dvCells (.slice apx X.pages.length cpx) X (.slice aux X.unread.length cux) (.slice afx X.faults.length cfx)) 27 HUD.out ?_ ?_ ?_ ?_ ?_); (exact rfl); (exact (HS93.out).get 3 rfl); (exact rfl); (exact info_dv); simp only [Act.put, List.setIfInBounds_toArray, List.set_cons_zero, List.set_cons_succ]) | ((with_reducible refine wpList_store_ob 27 (.tmp 3) B1 (dvCells (.slice apx X.pages.length cpx) X (.slice aux X.unread.length cux) (.slice afx X.faults.length cfx)) (dvCells (.slice apa d.pages.length cpa) d (.slice aua d.unread.length cua) (.slice afa d.faults.length cfa)) 27 ?_ ?_ ?_ ?_ ?_ ?_ ?_); (exact rfl); (exact rfl); (exact (HS93.out).get 1 rfl); (exact info_dv); (exact rfl); (exact (oneCell_dv _ _ _ _ _ _ _ _ _ _)); skip))
                have HS94 : Hid (DrH w C [.ob (w.heap.size) 27 (dvCells nilS dvNil nilS nilS), .ob B1 27 (dvCells (.slice apx X.pages.length cpx) X (.slice aux X.unread.length cux) (.slice afx X.faults.length cfx)), .rd R, .ob B2 27 (dvCells (.slice apx X.pages.length cpx) X (.slice aux X.unread.length cux) (.slice afx X.faults.length cfx)), .rd Rx] (w91.setRow B1 (dvCells (.slice apx X.pages.length cpx) X (.slice aux X.unread.length cux) (.slice afx X.faults.length cfx)).toArray)) := (HS93.out).row 1 rfl (dvCells (.slice apx X.pages.length cpx) X (.slice aux X.unread.length cux) (.slice afx X.faults.length cfx))
                clear HS93
                generalize (w91.setRow B1 (dvCells (.slice apx X.pages.length cpx) X (.slice aux X.unread.length cux) (.slice afx X.faults.length cfx)).toArray) = w93 at *
                go_meet
                exact ⟨X, _, _, _, _, HOx.out, HDvx.out, (HS94.out).pull [0, 1, 4] rfl (pull_nd (HS94.out).nd [0, 1, 4] rfl (by decide))⟩
            case rest =>
              obtain ⟨d1, p, u, f, R1, hok, hda, hs⟩ := hcut
              clear HOk HDa HDvx HGf HX HPl HBc HS91
              obtain ⟨apb, cpb, rfl, _⟩ := hda.pages
              obtain ⟨aub, cub, rfl, _⟩ := hda.unread
              obtain ⟨afb, cfb, rfl, _⟩ := hda.faults
              have HOk := Lib.hid hok
              have HDa := Lib.hid hda
              have HQ2 := Lib.hid hs
              have HPl : Hid (1 ≤ (d1.pages.length : Int) ∧ (d1.pages.length : Int) ≤ 256) := Lib.hid (by have := hok.some; omega)
              clear hda hs hok
              generalize wc = w100 at *
              go_upto_region 8 with (fail)
              refine wp_region_held_drew (S := fun w' => Hold w.heap.size [.ob B1 27 (dvCells (.slice apb d1.pages.length cpb) d1 (.slice aub d1.unread.length cub) (.slice afb d1.faults.length cfb))] w') (by kernel_rfl) ((HQ2.out).drew.pick [1] rfl) (fun hHeld => ?_)
              refine wpAnyH_take (i := 0) (oi := { dst := some 44, op := Op.load 27 (Operand.tmp 3), type := 27, pos := "draw.go:219", after := #[], guard := none }) rfl (by kernel_rfl) (by kernel_rfl) (by kernel_rfl) (fun _ _ _ h => h) (yieldsIf_load_mid (by rfl) 27 (.tmp 3) rfl B1 0 rfl (dvCells (.slice apb d1.pages.length cpb) d1 (.slice aub d1.unread.length cub) (.slice afb d1.faults.length cfb)) _ (fun _ h => h.whole 0 rfl) HUD.out rfl (info_dv)) hHeld ?_
              try simp only [Act.put, List.setIfInBounds_toArray, List.set_cons_zero, List.set_cons_succ]
              refine wpAnyH_take (i := 1) (oi := { dst := some 45, op := Op.move (Operand.tmp 0), type := 32, pos := "draw.go:219", after := #[], guard := none }) (v := ?q13v) rfl (by kernel_rfl) (by kernel_rfl) (by kernel_rfl) (fun _ _ _ h => h) (Or.inl ⟨by rfl, ?q13h⟩) hHeld ?q13r
              case q13h => (intro wq hSw; clear hSw; go_simp; try with_reducible rfl)
              try simp only [Act.put, List.setIfInBounds_toArray, List.set_cons_zero, List.set_cons_succ]
              refine wpAnyH_take (i := 2) (oi := { dst := some 46, op := Op.fieldAddr 27 (Operand.tmp 3) 0, type := 0, pos := "draw.go:219", after := #[], guard := none }) (v := ?q14v) rfl (by kernel_rfl) (by kernel_rfl) (by kernel_rfl) (fun _ _ _ h => h) (Or.inl ⟨by rfl, ?q14h⟩) hHeld ?q14r
              case q14h => (intro wq hSw; clear hSw; go_simp; try with_reducible rfl)
              try simp only [Act.put, List.setIfInBounds_toArray, List.set_cons_zero, List.set_cons_succ]
              refine wpAnyH_take (i := 3) (oi := { dst := some 47, op := Op.load 23 (Operand.tmp 46), type := 23, pos := "draw.go:219", after := #[{ on := 2, ground := Ground.data }], guard := none }) (v := ?q15v) rfl (by kernel_rfl) (by kernel_rfl) (by kernel_rfl) (fun _ _ _ h => h) (Or.inl ⟨by rfl, ?q15h⟩) hHeld ?q15r
              case q15h => (intro wq hSw; have q0 := hSw.at 0 rfl 0 rfl; clear hSw; go_simp; try with_reducible rfl)
              try simp only [Act.put, List.setIfInBounds_toArray, List.set_cons_zero, List.set_cons_succ]
              refine wpAnyH_take (i := 4) (oi := { dst := some 48, op := Op.call { callee := Callee.builtin Builtin.len, args := #[Operand.tmp 47], argTypes := #[23] }, type := 3, pos := "draw.go:219", after := #[{ on := 3, ground := Ground.data }], guard := none }) (v := ?q16v) rfl (by kernel_rfl) (by kernel_rfl) (by kernel_rfl) (fun _ _ _ h => h) (Or.inl ⟨by rfl, ?q16h⟩) hHeld ?q16r
              case q16h => (intro wq hSw; clear hSw; go_simp; try with_reducible rfl)
              try simp only [Act.put, List.setIfInBounds_toArray, List.set_cons_zero, List.set_cons_succ]
              refine wpAnyH_take (i := 6) (oi := { dst := some 50, op := Op.move (Operand.tmp 0), type := 32, pos := "draw.go:219", after := #[], guard := none }) (v := ?q17v) rfl (by kernel_rfl) (by kernel_rfl) (by kernel_rfl) (fun _ _ _ h => h) (Or.inl ⟨by rfl, ?q17h⟩) hHeld ?q17r
              case q17h => (intro wq hSw; clear hSw; go_simp; try with_reducible rfl)
              try simp only [Act.put, List.setIfInBounds_toArray, List.set_cons_zero, List.set_cons_succ]
              refine wpAnyH_ready (rs := [5, 12]) (by kernel_rfl) (by simp) ?_
              refine AllReadyH.cons (o := { dst := some 49, op := Op.call { callee := Callee.value (Operand.func 17), args := #[Operand.tmp 45, Operand.tmp 48], argTypes := #[32, 3] }, type := 3, pos := "draw.go:219", after := #[{ on := 1, ground := Ground.data }, { on := 4, ground := Ground.data }], guard := none }) rfl (fun K hK => ?_) (AllReadyH.cons (o := { dst := some 8, op := Op.alloc 27, type := 0, pos := "draw.go:219", after := #[], guard := none }) rfl (fun K hK => ?_) (AllReadyH.nil))
              · go_simp
                go_wp2_with (go_at_call 17; refine (next_any C d1.pages.length _ ((HQ2.out).drew).codes (Int.le_trans HPl.out.2 (by decide))).mono ?_; rintro e w111 ⟨qn, rfl, q0, q1, hb, hc⟩)
                have HS111 : Hid (DrH w C [.ob (w.heap.size) 27 (dvCells nilS dvNil nilS nilS), .ob B1 27 (dvCells (.slice apb d1.pages.length cpb) d1 (.slice aub d1.unread.length cub) (.slice afb d1.faults.length cfb)), .rd R1] w111) := ((HQ2.out).drew).draws hb hc
                refine hK.out _ _ (HS111.out.pick [1] rfl) (fun hHeld => ?_)
                clear hK K hb hc
                obtain ⟨q, rfl⟩ := Int.eq_ofNat_of_zero_le q0
                clear q0 q1
                try simp only [Act.put, List.setIfInBounds_toArray, List.set_cons_zero, List.set_cons_succ]
                refine wpAnyH_ready (rs := [7, 12]) (by kernel_rfl) (by simp) ?_
                refine AllReadyH.cons (o := { dst := some 51, op := Op.call { callee := Callee.value (Operand.func 18), args := #[Operand.tmp 50], argTypes := #[32] }, type := 9, pos := "draw.go:219", after := #[{ on := 6, ground := Ground.data }, { on := 5, ground := Ground.chain }], guard := none }) rfl (fun K hK => ?_) (AllReadyH.cons (o := { dst := some 8, op := Op.alloc 27, type := 0, pos := "draw.go:219", after := #[], guard := none }) rfl (fun K hK => ?_) (AllReadyH.nil))
                · go_simp
                  go_wp2_with (go_at_call 18; refine (bytes_any C _ (HS111.out).codes).mono ?_; rintro e w112 ⟨s, rfl, hs2, hb, hc⟩)
                  have HS112 : Hid (DrH w C [.ob (w.heap.size) 27 (dvCells nilS dvNil nilS nilS), .ob B1 27 (dvCells (.slice apb d1.pages.length cpb) d1 (.slice aub d1.unread.length cub) (.slice afb d1.faults.length cfb)), .rd R1] w112) := (HS111.out).draws hb hc
                  refine hK.out _ _ (HS112.out.pick [1] rfl) (fun hHeld => ?_)
                  clear hK K hb hc
                  have HSz := Lib.hid hs2
                  have HSm : Hid (s.size ≤ maxLen) := by show _ ≤ _; rw [hs2]; decide
                  clear hs2
                  try simp only [Act.put, List.setIfInBounds_toArray, List.set_cons_zero, List.set_cons_succ]
                  refine wpAnyH_ready (rs := [8, 12]) (by kernel_rfl) (by simp) ?_
                  refine AllReadyH.cons (o := { dst := some 52, op := Op.call { callee := Callee.value (Operand.func 21), args := #[Operand.tmp 44, Operand.tmp 49, Operand.tmp 51], argTypes := #[27, 3, 9] }, type := 36, pos := "draw.go:219", after := #[{ on := 0, ground := Ground.data }, { on := 5, ground := Ground.data }, { on := 7, ground := Ground.data }, { on := 7, ground := Ground.chain }], guard := none }) rfl (fun K hK => ?_) (AllReadyH.cons (o := { dst := some 8, op := Op.alloc 27, type := 0, pos := "draw.go:219", after := #[], guard := none }) rfl (fun K hK => ?_) (AllReadyH.nil))
                  · obtain ⟨Y, cY, hY⟩ : ∃ Y cY, writeR d1 q s = (Y, cY) := ⟨_, _, rfl⟩
                    have HY := Lib.hid hY
                    clear hY
                    go_simp
                    go_wp2_with (go_at_call 21; refine (dv_as HY.out (rwrite_any q s _ HDa.out ((HS112.out).reads 2 rfl) HOk.out.goodDv HSm.out HOk.out.pg HOk.out.fl)).mono ?_; rintro e w113 ⟨py, uy, fy, Ry, rfl, hrd, hin, hnew, hb⟩)
                    obtain ⟨apy, cpy, rfl, _⟩ := hrd.pages
                    obtain ⟨auy, cuy, rfl, _⟩ := hrd.unread
                    obtain ⟨afy, cfy, rfl, _⟩ := hrd.faults
                    have HDvy := Lib.hid hrd
                    have HS113 : Hid (DrH w C [.ob (w.heap.size) 27 (dvCells nilS dvNil nilS nilS), .ob B1 27 (dvCells (.slice apb d1.pages.length cpb) d1 (.slice aub d1.unread.length cub) (.slice afb d1.faults.length cfb)), .rd R1, .rd Ry] w113) := (HS112.out).addrd hb Ry hin (fun r hr => (hnew r hr).elim .inl (fun h => .inr ⟨.rd R1, List.mem_of_getElem? (i := 2) rfl, List.mem_map.2 ⟨r, h, rfl⟩⟩))
                    refine hK.out _ _ (HS113.out.pick [1] rfl) (fun hHeld => ?_)
                    clear hK K hb hin hnew hrd
                    try simp only [Act.put, List.setIfInBounds_toArray, List.set_cons_zero, List.set_cons_succ]
                    refine wpAnyH_take (i := 9) (oi := { dst := some 43, op := Op.move (Operand.tmp 52), type := 36, pos := "draw.go:219", after := #[{ on := 8, ground := Ground.data }], guard := none }) (v := ?q18v) rfl (by kernel_rfl) (by kernel_rfl) (by kernel_rfl) (fun _ _ _ h => h) (Or.inl ⟨by rfl, ?q18h⟩) hHeld ?q18r
                    case q18h => (intro wq hSw; clear hSw; go_simp; try with_reducible rfl)
                    try simp only [Act.put, List.setIfInBounds_toArray, List.set_cons_zero, List.set_cons_succ]
                    refine wpAnyH_take (i := 10) (oi := { dst := some 53, op := Op.extract (Operand.tmp 43) 0, type := 27, pos := "draw.go:219", after := #[{ on := 9, ground := Ground.data }], guard := none }) (v := ?q19v) rfl (by kernel_rfl) (by kernel_rfl) (by kernel_rfl) (fun _ _ _ h => h) (Or.inl ⟨by rfl, ?q19h⟩) hHeld ?q19r
                    case q19h => (intro wq hSw; clear hSw; go_simp; try with_reducible rfl)
                    try simp only [Act.put, List.setIfInBounds_toArray, List.set_cons_zero, List.set_cons_succ]
                    refine wpAnyH_take (i := 11) (oi := { dst := some 54, op := Op.extract (Operand.tmp 43) 1, type := 35, pos := "draw.go:219", after := #[{ on := 9, ground := Ground.data }, { on := 13, ground := Ground.gcOnly Departure.lateStores }], guard := none }) (v := ?q20v) rfl (by kernel_rfl) (by kernel_rfl) (by kernel_rfl) (fun _ _ _ h => h) (Or.inl ⟨by rfl, ?q20h⟩) hHeld ?q20r
                    case q20h => (intro wq hSw; clear hSw; go_simp; try with_reducible rfl)
                    try simp only [Act.put, List.setIfInBounds_toArray, List.set_cons_zero, List.set_cons_succ]
                    refine wpAnyH_ready (rs := [12]) (by kernel_rfl) (by simp) ?_
                    refine AllReadyH.cons (o := { dst := some 8, op := Op.alloc 27, type := 0, pos := "draw.go:219", after := #[], guard := none }) rfl (fun K hK => ?_) (AllReadyH.nil)
                    rw [if_pos (by rfl)]
                    refine wp_alloc_ob 27 (dvCells nilS dvNil nilS nilS) rfl alloc_dv ?_
                    have HS114 : Hid (DrH w C [.ob (w.heap.size) 27 (dvCells nilS dvNil nilS nilS), .ob B1 27 (dvCells (.slice apb d1.pages.length cpb) d1 (.slice aub d1.unread.length cub) (.slice afb d1.faults.length cfb)), .rd R1, .rd Ry, .ob (w113.heap.size) 27 (dvCells nilS dvNil nilS nilS)] (w113.alloc (.cells (dvCells nilS dvNil nilS nilS).toArray 27))) := (HS113.out).put 27 (dvCells nilS dvNil nilS nilS)
                    refine hK.out _ _ (HS114.out.pick [1] rfl) (fun hHeld => ?_)
                    clear hK K
                    generalize (w113.alloc (.cells (dvCells nilS dvNil nilS nilS).toArray 27)) = w114 at *
                    generalize w113.heap.size = B3 at *
                    try simp only [Act.put, List.setIfInBounds_toArray, List.set_cons_zero, List.set_cons_succ]
                    refine wpAnyH_ready (rs := [13]) (by kernel_rfl) (by simp) ?_
                    refine AllReadyH.cons (o := { dst := none, op := Op.store 27 (Operand.tmp 8) (Operand.tmp 53), type := 0, pos := "draw.go:219", after := #[{ on := 12, ground := Ground.data }, { on := 10, ground := Ground.data }, { on := 8, ground := Ground.chain }, { on := 0, ground := Ground.phase }, { on := 1, ground := Ground.phase }, { on := 2, ground := Ground.phase }, { on := 3, ground := Ground.phase }, { on := 4, ground := Ground.phase }, { on := 5, ground := Ground.phase }, { on := 6, ground := Ground.phase }, { on := 7, ground := Ground.phase }, { on := 8, ground := Ground.phase }, { on := 9, ground := Ground.phase }, { on := 10, ground := Ground.phase }, { on := 11, ground := Ground.textOnly Departure.lateStores }, { on := 12, ground := Ground.phase }], guard := none }) rfl (fun K hK => ?_) (AllReadyH.nil)
                    rw [if_pos (by rfl)]
                    refine wp_store_ob 27 (.tmp 8) (.tmp 53) B3 (dvCells (.slice apy Y.pages.length cpy) Y (.slice auy Y.unread.length cuy) (.slice afy Y.faults.length cfy)) (dvCells nilS dvNil nilS nilS) 27 rfl rfl rfl rfl ((HS114.out).get 4 rfl) (info_dv) (rfl) ((oneCell_dv _ _ _ _ _ _ _ _ _ _)) ?_
                    have HS115 : Hid (DrH w C [.ob (w.heap.size) 27 (dvCells nilS dvNil nilS nilS), .ob B1 27 (dvCells (.slice apb d1.pages.length cpb) d1 (.slice aub d1.unread.length cub) (.slice afb d1.faults.length cfb)), .rd R1, .rd Ry, .ob B3 27 (dvCells (.slice apy Y.pages.length cpy) Y (.slice auy Y.unread.length cuy) (.slice afy Y.faults.length cfy))] (w114.setRow B3 (dvCells (.slice apy Y.pages.length cpy) Y (.slice auy Y.unread.length cuy) (.slice afy Y.faults.length cfy)).toArray)) := (HS114.out).row 4 rfl (dvCells (.slice apy Y.pages.length cpy) Y (.slice auy Y.unread.length cuy) (.slice afy Y.faults.length cfy))
                    refine hK.out _ _ (HS115.out.pick [1] rfl) (fun hHeld => ?_)
                    clear hK K
                    generalize (w114.setRow B3 (dvCells (.slice apy Y.pages.length cpy) Y (.slice auy Y.unread.length cuy) (.slice afy Y.faults.length cfy)).toArray) = w115 at *
                    try simp only [Act.put, List.setIfInBounds_toArray, List.set_cons_zero, List.set_cons_succ]
                    refine wpAnyH_take (i := 14) (oi := { dst := some 9, op := Op.assign (Operand.tmp 54), type := 35, pos := "draw.go:219", after := #[{ on := 11, ground := Ground.data }, { on := 13, ground := Ground.chain }, { on := 0, ground := Ground.phase }, { on := 1, ground := Ground.phase }, { on := 2, ground := Ground.phase }, { on := 3, ground := Ground.phase }, { on := 4, ground := Ground.phase }, { on := 5, ground := Ground.phase }, { on := 6, ground := Ground.phase }, { on := 7, ground := Ground.phase }, { on := 8, ground := Ground.phase }, { on := 9, ground := Ground.phase }, { on := 10, ground := Ground.phase }, { on := 11, ground := Ground.phase }, { on := 12, ground := Ground.phase }, { on := 13, ground := Ground.phase }], guard := none }) (v := ?q21v) rfl (by kernel_rfl) (by kernel_rfl) (by kernel_rfl) (fun _ _ _ h => h) (Or.inl ⟨by rfl, ?q21h⟩) hHeld ?q21r
                    case q21h => (intro wq hSw; clear hSw; go_simp; try with_reducible rfl)
                    try simp only [Act.put, List.setIfInBounds_toArray, List.set_cons_zero, List.set_cons_succ]
                    refine wpAnyH_done (by kernel_rfl) ?_ _
                    clear hHeld
                    have HS116 : Hid (DrH w C [.ob (w.heap.size) 27 (dvCells nilS dvNil nilS nilS), .ob B1 27 (dvCells (.slice apb d1.pages.length cpb) d1 (.slice aub d1.unread.length cub) (.slice afb d1.faults.length cfb)), .rd R1, .rd Ry, .ob B3 27 (dvCells (.slice apy Y.pages.length cpy) Y (.slice auy Y.unread.length cuy) (.slice afy Y.faults.length cfy))] w115) := HS115.out
                    clear HS115
                    have HS117 : Hid (DrH w C [.ob (w.heap.size) 27 (dvCells nilS dvNil nilS nilS), .ob B1 27 (dvCells (.slice apb d1.pages.length cpb) d1 (.slice aub d1.unread.length cub) (.slice afb d1.faults.length cfb)), .rd R1, .ob B3 27 (dvCells (.slice apy Y.pages.length cpy) Y (.slice auy Y.unread.length cuy) (.slice afy Y.faults.length cfy)), .rd Ry] w115) := HS116.out.pull [0, 1, 2, 4, 3] rfl (pull_nd HS116.out.nd [0, 1, 2, 4, 3] rfl (by decide))
                    clear HS116
                    have hiw := HIw.out
                    by_cases hc0 : cY = 0
                    · have HOy : Hid (DvOk Y) := Lib.hid (write_keep HOk.out HSz.out HY.out hc0)
                      subst hc0
                      go_upto_region 10 with (fail)
                      have HS118 : Hid (DrH w C [.ob (w.heap.size) 27 (dvCells nilS dvNil nilS nilS), .ob B1 27 (dvCells (.slice apb d1.pages.length cpb) d1 (.slice aub d1.unread.length cub) (.slice afb d1.faults.length cfb)), .rd R1, .ob B3 27 (dvCells (.slice apy Y.pages.length cpy) Y (.slice auy Y.unread.length cuy) (.slice afy Y.faults.length cfy)), .rd Ry] w115) := HS117.out
                      clear HS117
                      go_wp2_with (first | ((with_reducible refine wpList_load_ob 27 (.tmp 8) B3 (dvCells (.slice apy Y.pages.length cpy) Y (.slice auy Y.unread.length cuy) (.slice afy Y.faults.length cfy)) 27 HUD.out ?_ ?_ ?_ ?_ ?_); (exact rfl); (exact (HS118.out).get 3 rfl); (exact rfl); (exact info_dv); simp only [Act.put, List.setIfInBounds_toArray, List.set_cons_zero, List.set_cons_succ]) | ((with_reducible refine wpList_store_ob 27 (.tmp 3) B1 (dvCells (.slice apy Y.pages.length cpy) Y (.slice auy Y.unread.length cuy) (.slice afy Y.faults.length cfy)) (dvCells (.slice apb d1.pages.length cpb) d1 (.slice aub d1.unread.length cub) (.slice afb d1.faults.length cfb)) 27 ?_ ?_ ?_ ?_ ?_ ?_ ?_); (exact rfl); (exact rfl); (exact (HS118.out).get 1 rfl); (exact info_dv); (exact rfl); (exact (oneCell_dv _ _ _ _ _ _ _ _ _ _)); skip))
                      go_roundw
                      case rel => exact ⟨Y, _, _, _, _, i - 1, rfl, by have := HI.out; omega, by have := HI.out; omega, HOy.out, HDvy.out, ((HS118.out).row 1 rfl (dvCells (.slice apy Y.pages.length cpy) Y (.slice auy Y.unread.length cuy) (.slice afy Y.faults.length cfy))).pull [0, 1, 4] rfl (pull_nd ((HS118.out).row 1 rfl (dvCells (.slice apy Y.pages.length cpy) Y (.slice auy Y.unread.length cuy) (.slice afy Y.faults.length cfy))).nd [0, 1, 4] rfl (by decide))⟩
                      case measure => simp [intOf]; have := HI.out; omega
                    · have hcb : (cY == 0) = false := by rw [beq_eq_false_iff_ne]; exact hc0
                      clear hc0
                      go_wp2_with fail
                      go_roundw
                      case rel => exact ⟨d1, _, _, _, _, i - 1, rfl, by have := HI.out; omega, by have := HI.out; omega, HOk.out, HDa.out, (HS117.out).pull [0, 1, 2] rfl (pull_nd (HS117.out).nd [0, 1, 2] rfl (by decide))⟩
                      case measure => simp [intOf]; have := HI.out; omega
                  · rw [if_pos (by rfl)]
                    refine wp_alloc_ob 27 (dvCells nilS dvNil nilS nilS) rfl alloc_dv ?_
                    have HS113 : Hid (DrH w C [.ob (w.heap.size) 27 (dvCells nilS dvNil nilS nilS), .ob B1 27 (dvCells (.slice apb d1.pages.length cpb) d1 (.slice aub d1.unread.length cub) (.slice afb d1.faults.length cfb)), .rd R1, .ob (w112.heap.size) 27 (dvCells nilS dvNil nilS nilS)] (w112.alloc (.cells (dvCells nilS dvNil nilS nilS).toArray 27))) := (HS112.out).put 27 (dvCells nilS dvNil nilS nilS)
                    refine hK.out _ _ (HS113.out.pick [1] rfl) (fun hHeld => ?_)
                    clear hK K
                    generalize (w112.alloc (.cells (dvCells nilS dvNil nilS nilS).toArray 27)) = w113 at *
                    generalize w112.heap.size = B3 at *
                    try simp only [Act.put, List.setIfInBounds_toArray, List.set_cons_zero, List.set_cons_succ]
                    refine wpAnyH_ready (rs := [8]) (by kernel_rfl) (by simp) ?_
                    refine AllReadyH.cons (o := { dst := some 52, op := Op.call { callee := Callee.value (Operand.func 21), args := #[Operand.tmp 44, Operand.tmp 49, Operand.tmp 51], argTypes := #[27, 3, 9] }, type := 36, pos := "draw.go:219", after := #[{ on := 0, ground := Ground.data }, { on := 5, ground := Ground.data }, { on := 7, ground := Ground.data }, { on := 7, ground := Ground.chain }], guard := none }) rfl (fun K hK => ?_) (AllReadyH.nil)
                    obtain ⟨Y, cY, hY⟩ : ∃ Y cY, writeR d1 q s = (Y, cY) := ⟨_, _, rfl⟩
                    have HY := Lib.hid hY
                    clear hY
                    go_simp
                    go_wp2_with (go_at_call 21; refine (dv_as HY.out (rwrite_any q s _ HDa.out ((HS113.out).reads 2 rfl) HOk.out.goodDv HSm.out HOk.out.pg HOk.out.fl)).mono ?_; rintro e w114 ⟨py, uy, fy, Ry, rfl, hrd, hin, hnew, hb⟩)
                    obtain ⟨apy, cpy, rfl, _⟩ := hrd.pages
                    obtain ⟨auy, cuy, rfl, _⟩ := hrd.unread
                    obtain ⟨afy, cfy, rfl, _⟩ := hrd.faults
                    have HDvy := Lib.hid hrd
                    have HS114 : Hid (DrH w C [.ob (w.heap.size) 27 (dvCells nilS dvNil nilS nilS), .ob B1 27 (dvCells (.slice apb d1.pages.length cpb) d1 (.slice aub d1.unread.length cub) (.slice afb d1.faults.length cfb)), .rd R1, .ob B3 27 (dvCells nilS dvNil nilS nilS), .rd Ry] w114) := (HS113.out).addrd hb Ry hin (fun r hr => (hnew r hr).elim .inl (fun h => .inr ⟨.rd R1, List.mem_of_getElem? (i := 2) rfl, List.mem_map.2 ⟨r, h, rfl⟩⟩))
                    refine hK.out _ _ (HS114.out.pick [1] rfl) (fun hHeld => ?_)
                    clear hK K hb hin hnew hrd
                    try simp only [Act.put, List.setIfInBounds_toArray, List.set_cons_zero, List.set_cons_succ]
                    refine wpAnyH_take (i := 9) (oi := { dst := some 43, op := Op.move (Operand.tmp 52), type := 36, pos := "draw.go:219", after := #[{ on := 8, ground := Ground.data }], guard := none }) (v := ?q22v) rfl (by kernel_rfl) (by kernel_rfl) (by kernel_rfl) (fun _ _ _ h => h) (Or.inl ⟨by rfl, ?q22h⟩) hHeld ?q22r
                    case q22h => (intro wq hSw; clear hSw; go_simp; try with_reducible rfl)
                    try simp only [Act.put, List.setIfInBounds_toArray, List.set_cons_zero, List.set_cons_succ]
                    refine wpAnyH_take (i := 10) (oi := { dst := some 53, op := Op.extract (Operand.tmp 43) 0, type := 27, pos := "draw.go:219", after := #[{ on := 9, ground := Ground.data }], guard := none }) (v := ?q23v) rfl (by kernel_rfl) (by kernel_rfl) (by kernel_rfl) (fun _ _ _ h => h) (Or.inl ⟨by rfl, ?q23h⟩) hHeld ?q23r
                    case q23h => (intro wq hSw; clear hSw; go_simp; try with_reducible rfl)
                    try simp only [Act.put, List.setIfInBounds_toArray, List.set_cons_zero, List.set_cons_succ]
                    refine wpAnyH_take (i := 11) (oi := { dst := some 54, op := Op.extract (Operand.tmp 43) 1, type := 35, pos := "draw.go:219", after := #[{ on := 9, ground := Ground.data }, { on := 13, ground := Ground.gcOnly Departure.lateStores }], guard := none }) (v := ?q24v) rfl (by kernel_rfl) (by kernel_rfl) (by kernel_rfl) (fun _ _ _ h => h) (Or.inl ⟨by rfl, ?q24h⟩) hHeld ?q24r
                    case q24h => (intro wq hSw; clear hSw; go_simp; try with_reducible rfl)
                    try simp only [Act.put, List.setIfInBounds_toArray, List.set_cons_zero, List.set_cons_succ]
                    refine wpAnyH_ready (rs := [13]) (by kernel_rfl) (by simp) ?_
                    refine AllReadyH.cons (o := { dst := none, op := Op.store 27 (Operand.tmp 8) (Operand.tmp 53), type := 0, pos := "draw.go:219", after := #[{ on := 12, ground := Ground.data }, { on := 10, ground := Ground.data }, { on := 8, ground := Ground.chain }, { on := 0, ground := Ground.phase }, { on := 1, ground := Ground.phase }, { on := 2, ground := Ground.phase }, { on := 3, ground := Ground.phase }, { on := 4, ground := Ground.phase }, { on := 5, ground := Ground.phase }, { on := 6, ground := Ground.phase }, { on := 7, ground := Ground.phase }, { on := 8, ground := Ground.phase }, { on := 9, ground := Ground.phase }, { on := 10, ground := Ground.phase }, { on := 11, ground := Ground.textOnly Departure.lateStores }, { on := 12, ground := Ground.phase }], guard := none }) rfl (fun K hK => ?_) (AllReadyH.nil)
                    rw [if_pos (by rfl)]
                    refine wp_store_ob 27 (.tmp 8) (.tmp 53) B3 (dvCells (.slice apy Y.pages.length cpy) Y (.slice auy Y.unread.length cuy) (.slice afy Y.faults.length cfy)) (dvCells nilS dvNil nilS nilS) 27 rfl rfl rfl rfl ((HS114.out).get 3 rfl) (info_dv) (rfl) ((oneCell_dv _ _ _ _ _ _ _ _ _ _)) ?_
                    have HS115 : Hid (DrH w C [.ob (w.heap.size) 27 (dvCells nilS dvNil nilS nilS), .ob B1 27 (dvCells (.slice apb d1.pages.length cpb) d1 (.slice aub d1.unread.length cub) (.slice afb d1.faults.length cfb)), .rd R1, .ob B3 27 (dvCells (.slice apy Y.pages.length cpy) Y (.slice auy Y.unread.length cuy) (.slice afy Y.faults.length cfy)), .rd Ry] (w114.setRow B3 (dvCells (.slice apy Y.pages.length cpy) Y (.slice auy Y.unread.length cuy) (.slice afy Y.faults.length cfy)).toArray)) := (HS114.out).row 3 rfl (dvCells (.slice apy Y.pages.length cpy) Y (.slice auy Y.unread.length cuy) (.slice afy Y.faults.length cfy))
                    refine hK.out _ _ (HS115.out.pick [1] rfl) (fun hHeld => ?_)
                    clear hK K
                    generalize (w114.setRow B3 (dvCells (.slice apy Y.pages.length cpy) Y (.slice auy Y.unread.length cuy) (.slice afy Y.faults.length cfy)).toArray) = w115 at *
                    try simp only [Act.put, List.setIfInBounds_toArray, List.set_cons_zero, List.set_cons_succ]
                    refine wpAnyH_take (i := 14) (oi := { dst := some 9, op := Op.assign (Operand.tmp 54), type := 35, pos := "draw.go:219", after := #[{ on := 11, ground := Ground.data }, { on := 13, ground := Ground.chain }, { on := 0, ground := Ground.phase }, { on := 1, ground := Ground.phase }, { on := 2, ground := Ground.phase }, { on := 3, ground := Ground.phase }, { on := 4, ground := Ground.phase }, { on := 5, ground := Ground.phase }, { on := 6, ground := Ground.phase }, { on := 7, ground := Ground.phase }, { on := 8, ground := Ground.phase }, { on := 9, ground := Ground.phase }, { on := 10, ground := Ground.phase }, { on := 11, ground := Ground.phase }, { on := 12, ground := Ground.phase }, { on := 13, ground := Ground.phase }], guard := none }) (v := ?q25v) rfl (by kernel_rfl) (by kernel_rfl) (by kernel_rfl) (fun _ _ _ h => h) (Or.inl ⟨by rfl, ?q25h⟩) hHeld ?q25r
                    case q25h => (intro wq hSw; clear hSw; go_simp; try with_reducible rfl)
                    try simp only [Act.put, List.setIfInBounds_toArray, List.set_cons_zero, List.set_cons_succ]
                    refine wpAnyH_done (by kernel_rfl) ?_ _
                    clear hHeld
                    have HS116 : Hid (DrH w C [.ob (w.heap.size) 27 (dvCells nilS dvNil nilS nilS), .ob B1 27 (dvCells (.slice apb d1.pages.length cpb) d1 (.slice aub d1.unread.length cub) (.slice afb d1.faults.length cfb)), .rd R1, .ob B3 27 (dvCells (.slice apy Y.pages.length cpy) Y (.slice auy Y.unread.length cuy) (.slice afy Y.faults.length cfy)), .rd Ry] w115) := HS115.out
                    clear HS115
                    have HS117 : Hid (DrH w C [.ob (w.heap.size) 27 (dvCells nilS dvNil nilS nilS), .ob B1 27 (dvCells (.slice apb d1.pages.length cpb) d1 (.slice aub d1.unread.length cub) (.slice afb d1.faults.length cfb)), .rd R1, .ob B3 27 (dvCells (.slice apy Y.pages.length cpy) Y (.slice auy Y.unread.length cuy) (.slice afy Y.faults.length cfy)), .rd Ry] w115) := HS116.out.pull [0, 1, 2, 3, 4] rfl (pull_nd HS116.out.nd [0, 1, 2, 3, 4] rfl (by decide))
                    clear HS116
                    have hiw := HIw.out
                    by_cases hc0 : cY = 0
                    · have HOy : Hid (DvOk Y) := Lib.hid (write_keep HOk.out HSz.out HY.out hc0)
                      subst hc0
                      go_upto_region 10 with (fail)
                      have HS118 : Hid (DrH w C [.ob (w.heap.size) 27 (dvCells nilS dvNil nilS nilS), .ob B1 27 (dvCells (.slice apb d1.pages.length cpb) d1 (.slice aub d1.unread.length cub) (.slice afb d1.faults.length cfb)), .rd R1, .ob B3 27 (dvCells (.slice apy Y.pages.length cpy) Y (.slice auy Y.unread.length cuy) (.slice afy Y.faults.length cfy)), .rd Ry] w115) := HS117.out
                      clear HS117
                      go_wp2_with (first | ((with_reducible refine wpList_load_ob 27 (.tmp 8) B3 (dvCells (.slice apy Y.pages.length cpy) Y (.slice auy Y.unread.length cuy) (.slice afy Y.faults.length cfy)) 27 HUD.out ?_ ?_ ?_ ?_ ?_); (exact rfl); (exact (HS118.out).get 3 rfl); (exact rfl); (exact info_dv); simp only [Act.put, List.setIfInBounds_toArray, List.set_cons_zero, List.set_cons_succ]) | ((with_reducible refine wpList_store_ob 27 (.tmp 3) B1 (dvCells (.slice apy Y.pages.length cpy) Y (.slice auy Y.unread.length cuy) (.slice afy Y.faults.length cfy)) (dvCells (.slice apb d1.pages.length cpb) d1 (.slice aub d1.unread.length cub) (.slice afb d1.faults.length cfb)) 27 ?_ ?_ ?_ ?_ ?_ ?_ ?_); (exact rfl); (exact rfl); (exact (HS118.out).get 1 rfl); (exact info_dv); (exact rfl); (exact (oneCell_dv _ _ _ _ _ _ _ _ _ _)); skip))
                      go_roundw
                      case rel => exact ⟨Y, _, _, _, _, i - 1, rfl, by have := HI.out; omega, by have := HI.out; omega, HOy.out, HDvy.out, ((HS118.out).row 1 rfl (dvCells (.slice apy Y.pages.length cpy) Y (.slice auy Y.unread.length cuy) (.slice afy Y.faults.length cfy))).pull [0, 1, 4] rfl (pull_nd ((HS118.out).row 1 rfl (dvCells (.slice apy Y.pages.length cpy) Y (.slice auy Y.unread.length cuy) (.slice afy Y.faults.length cfy))).nd [0, 1, 4] rfl (by decide))⟩
                      case measure => simp [intOf]; have := HI.out; omega
                    · have hcb : (cY == 0) = false := by rw [beq_eq_false_iff_ne]; exact hc0
                      clear hc0
                      go_wp2_with fail
                      go_roundw
                      case rel => exact ⟨d1, _, _, _, _, i - 1, rfl, by have := HI.out; omega, by have := HI.out; omega, HOk.out, HDa.out, (HS117.out).pull [0, 1, 2] rfl (pull_nd (HS117.out).nd [0, 1, 2] rfl (by decide))⟩
                      case measure => simp [intOf]; have := HI.out; omega
                · rw [if_pos (by rfl)]
                  refine wp_alloc_ob 27 (dvCells nilS dvNil nilS nilS) rfl alloc_dv ?_
                  have HS112 : Hid (DrH w C [.ob (w.heap.size) 27 (dvCells nilS dvNil nilS nilS), .ob B1 27 (dvCells (.slice apb d1.pages.length cpb) d1 (.slice aub d1.unread.length cub) (.slice afb d1.faults.length cfb)), .rd R1, .ob (w111.heap.size) 27 (dvCells nilS dvNil nilS nilS)] (w111.alloc (.cells (dvCells nilS dvNil nilS nilS).toArray 27))) := (HS111.out).put 27 (dvCells nilS dvNil nilS nilS)
                  refine hK.out _ _ (HS112.out.pick [1] rfl) (fun hHeld => ?_)
                  clear hK K
                  generalize (w111.alloc (.cells (dvCells nilS dvNil nilS nilS).toArray 27)) = w112 at *
                  generalize w111.heap.size = B3 at *
                  try simp only [Act.put, List.setIfInBounds_toArray, List.set_cons_zero, List.set_cons_succ]
                  refine wpAnyH_ready (rs := [7]) (by kernel_rfl) (by simp) ?_
                  refine AllReadyH.cons (o := { dst := some 51, op := Op.call { callee := Callee.value (Operand.func 18), args := #[Operand.tmp 50], argTypes := #[32] }, type := 9, pos := "draw.go:219", after := #[{ on := 6, ground := Ground.data }, { on := 5, ground := Ground.chain }], guard := none }) rfl (fun K hK => ?_) (AllReadyH.nil)
                  go_simp
                  go_wp2_with (go_at_call 18; refine (bytes_any C _ (HS112.out).codes).mono ?_; rintro e w113 ⟨s, rfl, hs2, hb, hc⟩)
                  have HS113 : Hid (DrH w C [.ob (w.heap.size) 27 (dvCells nilS dvNil nilS nilS), .ob B1 27 (dvCells (.slice apb d1.pages.length cpb) d1 (.slice aub d1.unread.length cub) (.slice afb d1.faults.length cfb)), .rd R1, .ob B3 27 (dvCells nilS dvNil nilS nilS)] w113) := (HS112.out).draws hb hc
                  refine hK.out _ _ (HS113.out.pick [1] rfl) (fun hHeld => ?_)
                  clear hK K hb hc
                  have HSz := Lib.hid hs2
                  have HSm : Hid (s.size ≤ maxLen) := by show _ ≤ _; rw [hs2]; decide
                  clear hs2
                  try simp only [Act.put, List.setIfInBounds_toArray, List.set_cons_zero, List.set_cons_succ]
                  refine wpAnyH_ready (rs := [8]) (by kernel_rfl) (by simp) ?_
                  refine AllReadyH.cons (o := { dst := some 52, op := Op.call { callee := Callee.value (Operand.func 21), args := #[Operand.tmp 44, Operand.tmp 49, Operand.tmp 51], argTypes := #[27, 3, 9] }, type := 36, pos := "draw.go:219", after := #[{ on := 0, ground := Ground.data }, { on := 5, ground := Ground.data }, { on := 7, ground := Ground.data }, { on := 7, ground := Ground.chain }], guard := none }) rfl (fun K hK => ?_) (AllReadyH.nil)
                  obtain ⟨Y, cY, hY⟩ : ∃ Y cY, writeR d1 q s = (Y, cY) := ⟨_, _, rfl⟩
                  have HY := Lib.hid hY
                  clear hY
                  go_simp
                  go_wp2_with (go_at_call 21; refine (dv_as HY.out (rwrite_any q s _ HDa.out ((HS113.out).reads 2 rfl) HOk.out.goodDv HSm.out HOk.out.pg HOk.out.fl)).mono ?_; rintro e w114 ⟨py, uy, fy, Ry, rfl, hrd, hin, hnew, hb⟩)
                  obtain ⟨apy, cpy, rfl, _⟩ := hrd.pages
                  obtain ⟨auy, cuy, rfl, _⟩ := hrd.unread
                  obtain ⟨afy, cfy, rfl, _⟩ := hrd.faults
                  have HDvy := Lib.hid hrd
                  have HS114 : Hid (DrH w C [.ob (w.heap.size) 27 (dvCells nilS dvNil nilS nilS), .ob B1 27 (dvCells (.slice apb d1.pages.length cpb) d1 (.slice aub d1.unread.length cub) (.slice afb d1.faults.length cfb)), .rd R1, .ob B3 27 (dvCells nilS dvNil nilS nilS), .rd Ry] w114) := (HS113.out).addrd hb Ry hin (fun r hr => (hnew r hr).elim .inl (fun h => .inr ⟨.rd R1, List.mem_of_getElem? (i := 2) rfl, List.mem_map.2 ⟨r, h, rfl⟩⟩))
                  refine hK.out _ _ (HS114.out.pick [1] rfl) (fun hHeld => ?_)
                  clear hK K hb hin hnew hrd
                  try simp only [Act.put, List.setIfInBounds_toArray, List.set_cons_zero, List.set_cons_succ]
                  refine wpAnyH_take (i := 9) (oi := { dst := some 43, op := Op.move (Operand.tmp 52), type := 36, pos := "draw.go:219", after := #[{ on := 8, ground := Ground.data }], guard := none }) (v := ?q26v) rfl (by kernel_rfl) (by kernel_rfl) (by kernel_rfl) (fun _ _ _ h => h) (Or.inl ⟨by rfl, ?q26h⟩) hHeld ?q26r
                  case q26h => (intro wq hSw; clear hSw; go_simp; try with_reducible rfl)
                  try simp only [Act.put, List.setIfInBounds_toArray, List.set_cons_zero, List.set_cons_succ]
                  refine wpAnyH_take (i := 10) (oi := { dst := some 53, op := Op.extract (Operand.tmp 43) 0, type := 27, pos := "draw.go:219", after := #[{ on := 9, ground := Ground.data }], guard := none }) (v := ?q27v) rfl (by kernel_rfl) (by kernel_rfl) (by kernel_rfl) (fun _ _ _ h => h) (Or.inl ⟨by rfl, ?q27h⟩) hHeld ?q27r
                  case q27h => (intro wq hSw; clear hSw; go_simp; try with_reducible rfl)
                  try simp only [Act.put, List.setIfInBounds_toArray, List.set_cons_zero, List.set_cons_succ]
                  refine wpAnyH_take (i := 11) (oi := { dst := some 54, op := Op.extract (Operand.tmp 43) 1, type := 35, pos := "draw.go:219", after := #[{ on := 9, ground := Ground.data }, { on := 13, ground := Ground.gcOnly Departure.lateStores }], guard := none }) (v := ?q28v) rfl (by kernel_rfl) (by kernel_rfl) (by kernel_rfl) (fun _ _ _ h => h) (Or.inl ⟨by rfl, ?q28h⟩) hHeld ?q28r
                  case q28h => (intro wq hSw; clear hSw; go_simp; try with_reducible rfl)
                  try simp only [Act.put, List.setIfInBounds_toArray, List.set_cons_zero, List.set_cons_succ]
                  refine wpAnyH_ready (rs := [13]) (by kernel_rfl) (by simp) ?_
                  refine AllReadyH.cons (o := { dst := none, op := Op.store 27 (Operand.tmp 8) (Operand.tmp 53), type := 0, pos := "draw.go:219", after := #[{ on := 12, ground := Ground.data }, { on := 10, ground := Ground.data }, { on := 8, ground := Ground.chain }, { on := 0, ground := Ground.phase }, { on := 1, ground := Ground.phase }, { on := 2, ground := Ground.phase }, { on := 3, ground := Ground.phase }, { on := 4, ground := Ground.phase }, { on := 5, ground := Ground.phase }, { on := 6, ground := Ground.phase }, { on := 7, ground := Ground.phase }, { on := 8, ground := Ground.phase }, { on := 9, ground := Ground.phase }, { on := 10, ground := Ground.phase }, { on := 11, ground := Ground.textOnly Departure.lateStores }, { on := 12, ground := Ground.phase }], guard := none }) rfl (fun K hK => ?_) (AllReadyH.nil)
                  rw [if_pos (by rfl)]
                  refine wp_store_ob 27 (.tmp 8) (.tmp 53) B3 (dvCells (.slice apy Y.pages.length cpy) Y (.slice auy Y.unread.length cuy) (.slice afy Y.faults.length cfy)) (dvCells nilS dvNil nilS nilS) 27 rfl rfl rfl rfl ((HS114.out).get 3 rfl) (info_dv) (rfl) ((oneCell_dv _ _ _ _ _ _ _ _ _ _)) ?_
                  have HS115 : Hid (DrH w C [.ob (w.heap.size) 27 (dvCells nilS dvNil nilS nilS), .ob B1 27 (dvCells (.slice apb d1.pages.length cpb) d1 (.slice aub d1.unread.length cub) (.slice afb d1.faults.length cfb)), .rd R1, .ob B3 27 (dvCells (.slice apy Y.pages.length cpy) Y (.slice auy Y.unread.length cuy) (.slice afy Y.faults.length cfy)), .rd Ry] (w114.setRow B3 (dvCells (.slice apy Y.pages.length cpy) Y (.slice auy Y.unread.length cuy) (.slice afy Y.faults.length cfy)).toArray)) := (HS114.out).row 3 rfl (dvCells (.slice apy Y.pages.length cpy) Y (.slice auy Y.unread.length cuy) (.slice afy Y.faults.length cfy))
                  refine hK.out _ _ (HS115.out.pick [1] rfl) (fun hHeld => ?_)
                  clear hK K
                  generalize (w114.setRow B3 (dvCells (.slice apy Y.pages.length cpy) Y (.slice auy Y.unread.length cuy) (.slice afy Y.faults.length cfy)).toArray) = w115 at *
                  try simp only [Act.put, List.setIfInBounds_toArray, List.set_cons_zero, List.set_cons_succ]
                  refine wpAnyH_take (i := 14) (oi := { dst := some 9, op := Op.assign (Operand.tmp 54), type := 35, pos := "draw.go:219", after := #[{ on := 11, ground := Ground.data }, { on := 13, ground := Ground.chain }, { on := 0, ground := Ground.phase }, { on := 1, ground := Ground.phase }, { on := 2, ground := Ground.phase }, { on := 3, ground := Ground.phase }, { on := 4, ground := Ground.phase }, { on := 5, ground := Ground.phase }, { on := 6, ground := Ground.phase }, { on := 7, ground := Ground.phase }, { on := 8, ground := Ground.phase }, { on := 9, ground := Ground.phase }, { on := 10, ground := Ground.phase }, { on := 11, ground := Ground.phase }, { on := 12, ground := Ground.phase }, { on := 13, ground := Ground.phase }], guard := none }) (v := ?q29v) rfl (by kernel_rfl) (by kernel_rfl) (by kernel_rfl) (fun _ _ _ h => h) (Or.inl ⟨by rfl, ?q29h⟩) hHeld ?q29r
                  case q29h => (intro wq hSw; clear hSw; go_simp; try with_reducible rfl)
                  try simp only [Act.put, List.setIfInBounds_toArray, List.set_cons_zero, List.set_cons_succ]
                  refine wpAnyH_done (by kernel_rfl) ?_ _
                  clear hHeld
                  have HS116 : Hid (DrH w C [.ob (w.heap.size) 27 (dvCells nilS dvNil nilS nilS), .ob B1 27 (dvCells (.slice apb d1.pages.length cpb) d1 (.slice aub d1.unread.length cub) (.slice afb d1.faults.length cfb)), .rd R1, .ob B3 27 (dvCells (.slice apy Y.pages.length cpy) Y (.slice auy Y.unread.length cuy) (.slice afy Y.faults.length cfy)), .rd Ry] w115) := HS115.out
                  clear HS115
                  have HS117 : Hid (DrH w C [.ob (w.heap.size) 27 (dvCells nilS dvNil nilS nilS), .ob B1 27 (dvCells (.slice apb d1.pages.length cpb) d1 (.slice aub d1.unread.length cub) (.slice afb d1.faults.length cfb)), .rd R1, .ob B3 27 (dvCells (.slice apy Y.pages.length cpy) Y (.slice auy Y.unread.length cuy) (.slice afy Y.faults.length cfy)), .rd Ry] w115) := HS116.out.pull [0, 1, 2, 3, 4] rfl (pull_nd HS116.out.nd [0, 1, 2, 3, 4] rfl (by decide))
                  clear HS116
                  have hiw := HIw.out
                  by_cases hc0 : cY = 0
                  · have HOy : Hid (DvOk Y) := Lib.hid (write_keep HOk.out HSz.out HY.out hc0)
                    subst hc0
                    go_upto_region 10 with (fail)
                    have HS118 : Hid (DrH w C [.ob (w.heap.size) 27 (dvCells nilS dvNil nilS nilS), .ob B1 27 (dvCells (.slice apb d1.pages.length cpb) d1 (.slice aub d1.unread.length cub) (.slice afb d1.faults.length cfb)), .rd R1, .ob B3 27 (dvCells (.slice apy Y.pages.length cpy) Y (.slice auy Y.unread.length cuy) (.slice afy Y.faults.length cfy)), .rd Ry] w115) := HS117.out
                    clear HS117
                    go_wp2_with (first | ((with_reducible refine wpList_load_ob 27 (.tmp 8) B3 (dvCells (.slice apy Y.pages.length cpy) Y (.slice auy Y.unread.length cuy) (.slice afy Y.faults.length cfy)) 27 HUD.out ?_ ?_ ?_ ?_ ?_); (exact rfl); (exact (HS118.out).get 3 rfl); (exact rfl); (exact info_dv); simp only [Act.put, List.setIfInBounds_toArray, List.set_cons_zero, List.set_cons_succ]) | ((with_reducible refine wpList_store_ob 27 (.tmp 3) B1 (dvCells (.slice apy Y.pages.length cpy) Y (.slice auy Y.unread.length cuy) (.slice afy Y.faults.length cfy)) (dvCells (.slice apb d1.pages.length cpb) d1 (.slice aub d1.unread.length cub) (.slice afb d1.faults.length cfb)) 27 ?_ ?_ ?_ ?_ ?_ ?_ ?_); (exact rfl); (exact rfl); (exact (HS118.out).get 1 rfl); (exact info_dv); (exact rfl); (exact (oneCell_dv _ _ _ _ _ _ _ _ _ _)); skip))
                    go_roundw
                    case rel => exact ⟨Y, _, _, _, _, i - 1, rfl, by have := HI.out; omega, by have := HI.out; omega, HOy.out, HDvy.out, ((HS118.out).row 1 rfl (dvCells (.slice apy Y.pages.length cpy) Y (.slice auy Y.unread.length cuy) (.slice afy Y.faults.length cfy))).pull [0, 1, 4] rfl (pull_nd ((HS118.out).row 1 rfl (dvCells (.slice apy Y.pages.length cpy) Y (.slice auy Y.unread.length cuy) (.slice afy Y.faults.length cfy))).nd [0, 1, 4] rfl (by decide))⟩
                    case measure => simp [intOf]; have := HI.out; omega
                  · have hcb : (cY == 0) = false := by rw [beq_eq_false_iff_ne]; exact hc0
                    clear hc0
                    go_wp2_with fail
                    go_roundw
                    case rel => exact ⟨d1, _, _, _, _, i - 1, rfl, by have := HI.out; omega, by have := HI.out; omega, HOk.out, HDa.out, (HS117.out).pull [0, 1, 2] rfl (pull_nd (HS117.out).nd [0, 1, 2] rfl (by decide))⟩
                    case measure => simp [intOf]; have := HI.out; omega
              · rw [if_pos (by rfl)]
                refine wp_alloc_ob 27 (dvCells nilS dvNil nilS nilS) rfl alloc_dv ?_
                have HS111 : Hid (DrH w C [.ob (w.heap.size) 27 (dvCells nilS dvNil nilS nilS), .ob B1 27 (dvCells (.slice apb d1.pages.length cpb) d1 (.slice aub d1.unread.length cub) (.slice afb d1.faults.length cfb)), .rd R1, .ob (w100.drew.heap.size) 27 (dvCells nilS dvNil nilS nilS)] (w100.drew.alloc (.cells (dvCells nilS dvNil nilS nilS).toArray 27))) := ((HQ2.out).drew).put 27 (dvCells nilS dvNil nilS nilS)
                refine hK.out _ _ (HS111.out.pick [1] rfl) (fun hHeld => ?_)
                clear hK K
                generalize (w100.drew.alloc (.cells (dvCells nilS dvNil nilS nilS).toArray 27)) = w111 at *
                generalize w100.drew.heap.size = B3 at *
                try simp only [Act.put, List.setIfInBounds_toArray, List.set_cons_zero, List.set_cons_succ]
                refine wpAnyH_ready (rs := [5]) (by kernel_rfl) (by simp) ?_
                refine AllReadyH.cons (o := { dst := some 49, op := Op.call { callee := Callee.value (Operand.func 17), args := #[Operand.tmp 45, Operand.tmp 48], argTypes := #[32, 3] }, type := 3, pos := "draw.go:219", after := #[{ on := 1, ground := Ground.data }, { on := 4, ground := Ground.data }], guard := none }) rfl (fun K hK => ?_) (AllReadyH.nil)
                go_simp
                go_wp2_with (go_at_call 17; refine (next_any C d1.pages.length _ (HS111.out).codes (Int.le_trans HPl.out.2 (by decide))).mono ?_; rintro e w112 ⟨qn, rfl, q0, q1, hb, hc⟩)
                have HS112 : Hid (DrH w C [.ob (w.heap.size) 27 (dvCells nilS dvNil nilS nilS), .ob B1 27 (dvCells (.slice apb d1.pages.length cpb) d1 (.slice aub d1.unread.length cub) (.slice afb d1.faults.length cfb)), .rd R1, .ob B3 27 (dvCells nilS dvNil nilS nilS)] w112) := (HS111.out).draws hb hc
                refine hK.out _ _ (HS112.out.pick [1] rfl) (fun hHeld => ?_)
                clear hK K hb hc
                obtain ⟨q, rfl⟩ := Int.eq_ofNat_of_zero_le q0
                clear q0 q1
                try simp only [Act.put, List.setIfInBounds_toArray, List.set_cons_zero, List.set_cons_succ]
                refine wpAnyH_ready (rs := [7]) (by kernel_rfl) (by simp) ?_
                refine AllReadyH.cons (o := { dst := some 51, op := Op.call { callee := Callee.value (Operand.func 18), args := #[Operand.tmp 50], argTypes := #[32] }, type := 9, pos := "draw.go:219", after := #[{ on := 6, ground := Ground.data }, { on := 5, ground := Ground.chain }], guard := none }) rfl (fun K hK => ?_) (AllReadyH.nil)
                go_simp
                go_wp2_with (go_at_call 18; refine (bytes_any C _ (HS112.out).codes).mono ?_; rintro e w113 ⟨s, rfl, hs2, hb, hc⟩)
                have HS113 : Hid (DrH w C [.ob (w.heap.size) 27 (dvCells nilS dvNil nilS nilS), .ob B1 27 (dvCells (.slice apb d1.pages.length cpb) d1 (.slice aub d1.unread.length cub) (.slice afb d1.faults.length cfb)), .rd R1, .ob B3 27 (dvCells nilS dvNil nilS nilS)] w113) := (HS112.out).draws hb hc
                refine hK.out _ _ (HS113.out.pick [1] rfl) (fun hHeld => ?_)
                clear hK K hb hc
                have HSz := Lib.hid hs2
                have HSm : Hid (s.size ≤ maxLen) := by show _ ≤ _; rw [hs2]; decide
                clear hs2
                try simp only [Act.put, List.setIfInBounds_toArray, List.set_cons_zero, List.set_cons_succ]
                refine wpAnyH_ready (rs := [8]) (by kernel_rfl) (by simp) ?_
                refine AllReadyH.cons (o := { dst := some 52, op := Op.call { callee := Callee.value (Operand.func 21), args := #[Operand.tmp 44, Operand.tmp 49, Operand.tmp 51], argTypes := #[27, 3, 9] }, type := 36, pos := "draw.go:219", after := #[{ on := 0, ground := Ground.data }, { on := 5, ground := Ground.data }, { on := 7, ground := Ground.data }, { on := 7, ground := Ground.chain }], guard := none }) rfl (fun K hK => ?_) (AllReadyH.nil)
                obtain ⟨Y, cY, hY⟩ : ∃ Y cY, writeR d1 q s = (Y, cY) := ⟨_, _, rfl⟩
                have HY := Lib.hid hY
                clear hY
                go_simp
                go_wp2_with (go_at_call 21; refine (dv_as HY.out (rwrite_any q s _ HDa.out ((HS113.out).reads 2 rfl) HOk.out.goodDv HSm.out HOk.out.pg HOk.out.fl)).mono ?_; rintro e w114 ⟨py, uy, fy, Ry, rfl, hrd, hin, hnew, hb⟩)
                obtain ⟨apy, cpy, rfl, _⟩ := hrd.pages
                obtain ⟨auy, cuy, rfl, _⟩ := hrd.unread
                obtain ⟨afy, cfy, rfl, _⟩ := hrd.faults
                have HDvy := Lib.hid hrd
                have HS114 : Hid (DrH w C [.ob (w.heap.size) 27 (dvCells nilS dvNil nilS nilS), .ob B1 27 (dvCells (.slice apb d1.pages.length cpb) d1 (.slice aub d1.unread.length cub) (.slice afb d1.faults.length cfb)), .rd R1, .ob B3 27 (dvCells nilS dvNil nilS nilS), .rd Ry] w114) := (HS113.out).addrd hb Ry hin (fun r hr => (hnew r hr).elim .inl (fun h => .inr ⟨.rd R1, List.mem_of_getElem? (i := 2) rfl, List.mem_map.2 ⟨r, h, rfl⟩⟩))
                refine hK.out _ _ (HS114.out.pick [1] rfl) (fun hHeld => ?_)
                clear hK K hb hin hnew hrd
                try simp only [Act.put, List.setIfInBounds_toArray, List.set_cons_zero, List.set_cons_succ]
                refine wpAnyH_take (i := 9) (oi := { dst := some 43, op := Op.move (Operand.tmp 52), type := 36, pos := "draw.go:219", after := #[{ on := 8, ground := Ground.data }], guard := none }) (v := ?q30v) rfl (by kernel_rfl) (by kernel_rfl) (by kernel_rfl) (fun _ _ _ h => h) (Or.inl ⟨by rfl, ?q30h⟩) hHeld ?q30r
                case q30h => (intro wq hSw; clear hSw; go_simp; try with_reducible rfl)
                try simp only [Act.put, List.setIfInBounds_toArray, List.set_cons_zero, List.set_cons_succ]
                refine wpAnyH_take (i := 10) (oi := { dst := some 53, op := Op.extract (Operand.tmp 43) 0, type := 27, pos := "draw.go:219", after := #[{ on := 9, ground := Ground.data }], guard := none }) (v := ?q31v) rfl (by kernel_rfl) (by kernel_rfl) (by kernel_rfl) (fun _ _ _ h => h) (Or.inl ⟨by rfl, ?q31h⟩) hHeld ?q31r
                case q31h => (intro wq hSw; clear hSw; go_simp; try with_reducible rfl)
                try simp only [Act.put, List.setIfInBounds_toArray, List.set_cons_zero, List.set_cons_succ]
                refine wpAnyH_take (i := 11) (oi := { dst := some 54, op := Op.extract (Operand.tmp 43) 1, type := 35, pos := "draw.go:219", after := #[{ on := 9, ground := Ground.data }, { on := 13, ground := Ground.gcOnly Departure.lateStores }], guard := none }) (v := ?q32v) rfl (by kernel_rfl) (by kernel_rfl) (by kernel_rfl) (fun _ _ _ h => h) (Or.inl ⟨by rfl, ?q32h⟩) hHeld ?q32r
                case q32h => (intro wq hSw; clear hSw; go_simp; try with_reducible rfl)
                try simp only [Act.put, List.setIfInBounds_toArray, List.set_cons_zero, List.set_cons_succ]
                refine wpAnyH_ready (rs := [13]) (by kernel_rfl) (by simp) ?_
                refine AllReadyH.cons (o := { dst := none, op := Op.store 27 (Operand.tmp 8) (Operand.tmp 53), type := 0, pos := "draw.go:219", after := #[{ on := 12, ground := Ground.data }, { on := 10, ground := Ground.data }, { on := 8, ground := Ground.chain }, { on := 0, ground := Ground.phase }, { on := 1, ground := Ground.phase }, { on := 2, ground := Ground.phase }, { on := 3, ground := Ground.phase }, { on := 4, ground := Ground.phase }, { on := 5, ground := Ground.phase }, { on := 6, ground := Ground.phase }, { on := 7, ground := Ground.phase }, { on := 8, ground := Ground.phase }, { on := 9, ground := Ground.phase }, { on := 10, ground := Ground.phase }, { on := 11, ground := Ground.textOnly Departure.lateStores }, { on := 12, ground := Ground.phase }], guard := none }) rfl (fun K hK => ?_) (AllReadyH.nil)
                rw [if_pos (by rfl)]
                refine wp_store_ob 27 (.tmp 8) (.tmp 53) B3 (dvCells (.slice apy Y.pages.length cpy) Y (.slice auy Y.unread.length cuy) (.slice afy Y.faults.length cfy)) (dvCells nilS dvNil nilS nilS) 27 rfl rfl rfl rfl ((HS114.out).get 3 rfl) (info_dv) (rfl) ((oneCell_dv _ _ _ _ _ _ _ _ _ _)) ?_
                have HS115 : Hid (DrH w C [.ob (w.heap.size) 27 (dvCells nilS dvNil nilS nilS), .ob B1 27 (dvCells (.slice apb d1.pages.length cpb) d1 (.slice aub d1.unread.length cub) (.slice afb d1.faults.length cfb)), .rd R1, .ob B3 27 (dvCells (.slice apy Y.pages.length cpy) Y (.slice auy Y.unread.length cuy) (.slice afy Y.faults.length cfy)), .rd Ry] (w114.setRow B3 (dvCells (.slice apy Y.pages.length cpy) Y (.slice auy Y.unread.length cuy) (.slice afy Y.faults.length cfy)).toArray)) := (HS114.out).row 3 rfl (dvCells (.slice apy Y.pages.length cpy) Y (.slice auy Y.unread.length cuy) (.slice afy Y.faults.length cfy))
                refine hK.out _ _ (HS115.out.pick [1] rfl) (fun hHeld => ?_)
                clear hK K
                generalize (w114.setRow B3 (dvCells (.slice apy Y.pages.length cpy) Y (.slice auy Y.unread.length cuy) (.slice afy Y.faults.length cfy)).toArray) = w115 at *
                try simp only [Act.put, List.setIfInBounds_toArray, List.set_cons_zero, List.set_cons_succ]
                refine wpAnyH_take (i := 14) (oi := { dst := some 9, op := Op.assign (Operand.tmp 54), type := 35, pos := "draw.go:219", after := #[{ on := 11, ground := Ground.data }, { on := 13, ground := Ground.chain }, { on := 0, ground := Ground.phase }, { on := 1, ground := Ground.phase }, { on := 2, ground := Ground.phase }, { on := 3, ground := Ground.phase }, { on := 4, ground := Ground.phase }, { on := 5, ground := Ground.phase }, { on := 6, ground := Ground.phase }, { on := 7, ground := Ground.phase }, { on := 8, ground := Ground.phase }, { on := 9, ground := Ground.phase }, { on := 10, ground := Ground.phase }, { on := 11, ground := Ground.phase }, { on := 12, ground := Ground.phase }, { on := 13, ground := Ground.phase }], guard := none }) (v := ?q33v) rfl (by kernel_rfl) (by kernel_rfl) (by kernel_rfl) (fun _ _ _ h => h) (Or.inl ⟨by rfl, ?q33h⟩) hHeld ?q33r
                case q33h => (intro wq hSw; clear hSw; go_simp; try with_reducible rfl)
                try simp only [Act.put, List.setIfInBounds_toArray, List.set_cons_zero, List.set_cons_succ]
                refine wpAnyH_done (by kernel_rfl) ?_ _
                clear hHeld
                have HS116 : Hid (DrH w C [.ob (w.heap.size) 27 (dvCells nilS dvNil nilS nilS), .ob B1 27 (dvCells (.slice apb d1.pages.length cpb) d1 (.slice aub d1.unread.length cub) (.slice afb d1.faults.length cfb)), .rd R1, .ob B3 27 (dvCells (.slice apy Y.pages.length cpy) Y (.slice auy Y.unread.length cuy) (.slice afy Y.faults.length cfy)), .rd Ry] w115) := HS115.out
                clear HS115
                have HS117 : Hid (DrH w C [.ob (w.heap.size) 27 (dvCells nilS dvNil nilS nilS), .ob B1 27 (dvCells (.slice apb d1.pages.length cpb) d1 (.slice aub d1.unread.length cub) (.slice afb d1.faults.length cfb)), .rd R1, .ob B3 27 (dvCells (.slice apy Y.pages.length cpy) Y (.slice auy Y.unread.length cuy) (.slice afy Y.faults.length cfy)), .rd Ry] w115) := HS116.out.pull [0, 1, 2, 3, 4] rfl (pull_nd HS116.out.nd [0, 1, 2, 3, 4] rfl (by decide))
                clear HS116
                have hiw := HIw.out
                by_cases hc0 : cY = 0
                · have HOy : Hid (DvOk Y) := Lib.hid (write_keep HOk.out HSz.out HY.out hc0)
                  subst hc0
                  go_upto_region 10 with (fail)
                  have HS118 : Hid (DrH w C [.ob (w.heap.size) 27 (dvCells nilS dvNil nilS nilS), .ob B1 27 (dvCells (.slice apb d1.pages.length cpb) d1 (.slice aub d1.unread.length cub) (.slice afb d1.faults.length cfb)), .rd R1, .ob B3 27 (dvCells (.slice apy Y.pages.length cpy) Y (.slice auy Y.unread.length cuy) (.slice afy Y.faults.length cfy)), .rd Ry] w115) := HS117.out
                  clear HS117
                  go_wp2_with (first | ((with_reducible refine wpList_load_ob 27 (.tmp 8) B3 (dvCells (.slice apy Y.pages.length cpy) Y (.slice auy Y.unread.length cuy) (.slice afy Y.faults.length cfy)) 27 HUD.out ?_ ?_ ?_ ?_ ?_); (exact rfl); (exact (HS118.out).get 3 rfl); (exact rfl); (exact info_dv); simp only [Act.put, List.setIfInBounds_toArray, List.set_cons_zero, List.set_cons_succ]) | ((with_reducible refine wpList_store_ob 27 (.tmp 3) B1 (dvCells (.slice apy Y.pages.length cpy) Y (.slice auy Y.unread.length cuy) (.slice afy Y.faults.length cfy)) (dvCells (.slice apb d1.pages.length cpb) d1 (.slice aub d1.unread.length cub) (.slice afb d1.faults.length cfb)) 27 ?_ ?_ ?_ ?_ ?_ ?_ ?_); (exact rfl); (exact rfl); (exact (HS118.out).get 1 rfl); (exact info_dv); (exact rfl); (exact (oneCell_dv _ _ _ _ _ _ _ _ _ _)); skip))
                  go_roundw
                  case rel => exact ⟨Y, _, _, _, _, i - 1, rfl, by have := HI.out; omega, by have := HI.out; omega, HOy.out, HDvy.out, ((HS118.out).row 1 rfl (dvCells (.slice apy Y.pages.length cpy) Y (.slice auy Y.unread.length cuy) (.slice afy Y.faults.length cfy))).pull [0, 1, 4] rfl (pull_nd ((HS118.out).row 1 rfl (dvCells (.slice apy Y.pages.length cpy) Y (.slice auy Y.unread.length cuy) (.slice afy Y.faults.length cfy))).nd [0, 1, 4] rfl (by decide))⟩
                  case measure => simp [intOf]; have := HI.out; omega
                · have hcb : (cY == 0) = false := by rw [beq_eq_false_iff_ne]; exact hc0
                  clear hc0
                  go_wp2_with fail
                  go_roundw
                  case rel => exact ⟨d1, _, _, _, _, i - 1, rfl, by have := HI.out; omega, by have := HI.out; omega, HOk.out, HDa.out, (HS117.out).pull [0, 1, 2] rfl (pull_nd (HS117.out).nd [0, 1, 2] rfl (by decide))⟩
                  case measure => simp [intOf]; have := HI.out; omega
        · rw [if_pos (by rfl)]
          refine wp_alloc_ob 27 (dvCells nilS dvNil nilS nilS) rfl alloc_dv ?_
          have HS63 : Hid (DrH w C [.ob (w.heap.size) 27 (dvCells nilS dvNil nilS nilS), .ob B1 27 (dvCells (.slice apa d.pages.length cpa) d (.slice aua d.unread.length cua) (.slice afa d.faults.length cfa)), .rd R, .ob (w61.heap.size) 27 (dvCells nilS dvNil nilS nilS)] (w61.alloc (.cells (dvCells nilS dvNil nilS nilS).toArray 27))) := (HS62.out).put 27 (dvCells nilS dvNil nilS nilS)
          refine hK.out _ _ (HS63.out.pick [1] rfl) (fun hHeld => ?_)
          clear hK K
          generalize (w61.alloc (.cells (dvCells nilS dvNil nilS nilS).toArray 27)) = w62 at *
          generalize w61.heap.size = B2 at *
          try simp only [Act.put, List.setIfInBounds_toArray, List.set_cons_zero, List.set_cons_succ]
          refine wpAnyH_ready (rs := [8]) (by kernel_rfl) (by simp) ?_
          refine AllReadyH.cons (o := { dst := some 32, op := Op.call { callee := Callee.value (Operand.func 26), args := #[Operand.tmp 24, Operand.tmp 31], argTypes := #[27, 29] }, type := 36, pos := "draw.go:216", after := #[{ on := 0, ground := Ground.data }, { on := 7, ground := Ground.data }, { on := 7, ground := Ground.chain }], guard := none }) rfl (fun K hK => ?_) (AllReadyH.nil)
          go_simp
          go_wp2_with (go_at_call 26; refine (dv_as HX.out (rinject_any g _ HDa.out ((HS63.out).reads 2 rfl) HOk.out.goodDv HGf.out HOk.out.pg HOk.out.fl)).mono ?_; rintro e w63 ⟨px, ux, fx, Rx, rfl, hrd, hin, hnew, hb⟩)
          obtain ⟨apx, cpx, rfl, _⟩ := hrd.pages
          obtain ⟨aux, cux, rfl, _⟩ := hrd.unread
          obtain ⟨afx, cfx, rfl, _⟩ := hrd.faults
          have HDvx := Lib.hid hrd
          have HS64 : Hid (DrH w C [.ob (w.heap.size) 27 (dvCells nilS dvNil nilS nilS), .ob B1 27 (dvCells (.slice apa d.pages.length cpa) d (.slice aua d.unread.length cua) (.slice afa d.faults.length cfa)), .rd R, .ob B2 27 (dvCells nilS dvNil nilS nilS), .rd Rx] w63) := (HS63.out).addrd hb Rx hin (fun r hr => (hnew r hr).elim .inl (fun h => .inr ⟨.rd R, List.mem_of_getElem? (i := 2) rfl, List.mem_map.2 ⟨r, h, rfl⟩⟩))
          refine hK.out _ _ (HS64.out.pick [1] rfl) (fun hHeld => ?_)
          clear hK K hb hin hnew hrd
          try simp only [Act.put, List.setIfInBounds_toArray, List.set_cons_zero, List.set_cons_succ]
          refine wpAnyH_take (i := 9) (oi := { dst := some 23, op := Op.move (Operand.tmp 32), type := 36, pos := "draw.go:216", after := #[{ on := 8, ground := Ground.data }], guard := none }) (v := ?q34v) rfl (by kernel_rfl) (by kernel_rfl) (by kernel_rfl) (fun _ _ _ h => h) (Or.inl ⟨by rfl, ?q34h⟩) hHeld ?q34r
          case q34h => (intro wq hSw; clear hSw; go_simp; try with_reducible rfl)
          try simp only [Act.put, List.setIfInBounds_toArray, List.set_cons_zero, List.set_cons_succ]
          refine wpAnyH_take (i := 10) (oi := { dst := some 33, op := Op.extract (Operand.tmp 23) 0, type := 27, pos := "draw.go:216", after := #[{ on := 9, ground := Ground.data }], guard := none }) (v := ?q35v) rfl (by kernel_rfl) (by kernel_rfl) (by kernel_rfl) (fun _ _ _ h => h) (Or.inl ⟨by rfl, ?q35h⟩) hHeld ?q35r
          case q35h => (intro wq hSw; clear hSw; go_simp; try with_reducible rfl)
          try simp only [Act.put, List.setIfInBounds_toArray, List.set_cons_zero, List.set_cons_succ]
          refine wpAnyH_take (i := 11) (oi := { dst := some 34, op := Op.extract (Operand.tmp 23) 1, type := 35, pos := "draw.go:216", after := #[{ on := 9, ground := Ground.data }, { on := 13, ground := Ground.gcOnly Departure.lateStores }], guard := none }) (v := ?q36v) rfl (by kernel_rfl) (by kernel_rfl) (by kernel_rfl) (fun _ _ _ h => h) (Or.inl ⟨by rfl, ?q36h⟩) hHeld ?q36r
          case q36h => (intro wq hSw; clear hSw; go_simp; try with_reducible rfl)
          try simp only [Act.put, List.setIfInBounds_toArray, List.set_cons_zero, List.set_cons_succ]
          refine wpAnyH_ready (rs := [13]) (by kernel_rfl) (by simp) ?_
          refine AllReadyH.cons (o := { dst := none, op := Op.store 27 (Operand.tmp 6) (Operand.tmp 33), type := 0, pos := "draw.go:216", after := #[{ on := 12, ground := Ground.data }, { on := 10, ground := Ground.data }, { on := 8, ground := Ground.chain }, { on := 0, ground := Ground.phase }, { on := 1, ground := Ground.phase }, { on := 2, ground := Ground.phase }, { on := 3, ground := Ground.phase }, { on := 4, ground := Ground.phase }, { on := 5, ground := Ground.phase }, { on := 6, ground := Ground.phase }, { on := 7, ground := Ground.phase }, { on := 8, ground := Ground.phase }, { on := 9, ground := Ground.phase }, { on := 10, ground := Ground.phase }, { on := 11, ground := Ground.textOnly Departure.lateStores }, { on := 12, ground := Ground.phase }], guard := none }) rfl (fun K hK => ?_) (AllReadyH.nil)
          rw [if_pos (by rfl)]
          refine wp_store_ob 27 (.tmp 6) (.tmp 33) B2 (dvCells (.slice apx X.pages.length cpx) X (.slice aux X.unread.length cux) (.slice afx X.faults.length cfx)) (dvCells nilS dvNil nilS nilS) 27 rfl rfl rfl rfl ((HS64.out).get 3 rfl) (info_dv) (rfl) ((oneCell_dv _ _ _ _ _ _ _ _ _ _)) ?_
          have HS65 : Hid (DrH w C [.ob (w.heap.size) 27 (dvCells nilS dvNil nilS nilS), .ob B1 27 (dvCells (.slice apa d.pages.length cpa) d (.slice aua d.unread.length cua) (.slice afa d.faults.length cfa)), .rd R, .ob B2 27 (dvCells (.slice apx X.pages.length cpx) X (.slice aux X.unread.length cux) (.slice afx X.faults.length cfx)), .rd Rx] (w63.setRow B2 (dvCells (.slice apx X.pages.length cpx) X (.slice aux X.unread.length cux) (.slice afx X.faults.length cfx)).toArray)) := (HS64.out).row 3 rfl (dvCells (.slice apx X.pages.length cpx) X (.slice aux X.unread.length cux) (.slice afx X.faults.length cfx))
          refine hK.out _ _ (HS65.out.pick [1] rfl) (fun hHeld => ?_)
          clear hK K
          generalize (w63.setRow B2 (dvCells (.slice apx X.pages.length cpx) X (.slice aux X.unread.length cux) (.slice afx X.faults.length cfx)).toArray) = w64 at *
          try simp only [Act.put, List.setIfInBounds_toArray, List.set_cons_zero, List.set_cons_succ]
          refine wpAnyH_take (i := 14) (oi := { dst := some 7, op := Op.assign (Operand.tmp 34), type := 35, pos := "draw.go:216", after := #[{ on := 11, ground := Ground.data }, { on := 13, ground := Ground.chain }, { on := 0, ground := Ground.phase }, { on := 1, ground := Ground.phase }, { on := 2, ground := Ground.phase }, { on := 3, ground := Ground.phase }, { on := 4, ground := Ground.phase }, { on := 5, ground := Ground.phase }, { on := 6, ground := Ground.phase }, { on := 7, ground := Ground.phase }, { on := 8, ground := Ground.phase }, { on := 9, ground := Ground.phase }, { on := 10, ground := Ground.phase }, { on := 11, ground := Ground.phase }, { on := 12, ground := Ground.phase }, { on := 13, ground := Ground.phase }], guard := none }) (v := ?q37v) rfl (by kernel_rfl) (by kernel_rfl) (by kernel_rfl) (fun _ _ _ h => h) (Or.inl ⟨by rfl, ?q37h⟩) hHeld ?q37r
          case q37h => (intro wq hSw; clear hSw; go_simp; try with_reducible rfl)
          try simp only [Act.put, List.setIfInBounds_toArray, List.set_cons_zero, List.set_cons_succ]
          refine wpAnyH_done (by kernel_rfl) ?_ _
          clear hHeld
          have HS66 : Hid (DrH w C [.ob (w.heap.size) 27 (dvCells nilS dvNil nilS nilS), .ob B1 27 (dvCells (.slice apa d.pages.length cpa) d (.slice aua d.unread.length cua) (.slice afa d.faults.length cfa)), .rd R, .ob B2 27 (dvCells (.slice apx X.pages.length cpx) X (.slice aux X.unread.length cux) (.slice afx X.faults.length cfx)), .rd Rx] w64) := HS65.out
          clear HS65
          have HS67 : Hid (DrH w C [.ob (w.heap.size) 27 (dvCells nilS dvNil nilS nilS), .ob B1 27 (dvCells (.slice apa d.pages.length cpa) d (.slice aua d.unread.length cua) (.slice afa d.faults.length cfa)), .rd R, .ob B2 27 (dvCells (.slice apx X.pages.length cpx) X (.slice aux X.unread.length cux) (.slice afx X.faults.length cfx)), .rd Rx] w64) := HS66.out.pull [0, 1, 2, 3, 4] rfl (pull_nd HS66.out.nd [0, 1, 2, 3, 4] rfl (by decide))
          clear HS66
          go_upto_region 6 with (fail)
          go_cut [41] (fun v wx => ∃ b : Bool, v = .bool b ∧ DrH w C [.ob (w.heap.size) 27 (dvCells nilS dvNil nilS nilS), .ob B1 27 (dvCells (.slice apa d.pages.length cpa) d (.slice aua d.unread.length cua) (.slice afa d.faults.length cfa)), .rd R, .ob B2 27 (dvCells (.slice apx X.pages.length cpx) X (.slice aux X.unread.length cux) (.slice afx X.faults.length cfx)), .rd Rx] wx ∧ (b = true → cX = 0))
          case first =>
            by_cases hc0 : cX = 0
            · have hcb : (cX == 0) = true := by rw [hc0]; rfl
              have HC0 := Lib.hid hc0
              clear hc0
              go_wp2_with fail
              refine (next_any C 2 _ (HS67.out).codes (by omega)).mono ?_
              rintro e w90 ⟨b, rfl, b0, b1, hb, hc⟩
              have HS90 : Hid (DrH w C [.ob (w.heap.size) 27 (dvCells nilS dvNil nilS nilS), .ob B1 27 (dvCells (.slice apa d.pages.length cpa) d (.slice aua d.unread.length cua) (.slice afa d.faults.length cfa)), .rd R, .ob B2 27 (dvCells (.slice apx X.pages.length cpx) X (.slice aux X.unread.length cux) (.slice afx X.faults.length cfx)), .rd Rx] w90) := (HS67.out).draws hb hc
              clear hb hc b0 b1
              go_wp2_with fail
              go_meet
              exact ⟨_, rfl, HS90.out, fun _ => HC0.out⟩
            · have hcb : (cX == 0) = false := by rw [beq_eq_false_iff_ne]; exact hc0
              clear hc0
              go_wp2_with fail
              go_meet
              exact ⟨false, rfl, HS67.out, fun h => absurd h (by decide)⟩
          case rest =>
            obtain ⟨b, rfl, hs, hbc⟩ := hcut
            clear HS67
            have HS91 := Lib.hid hs
            have HBc := Lib.hid hbc
            clear hs hbc
            generalize wc = w91 at *
            go_upto_if 41 with (fail)
            go_cut [] (fun wx => ∃ (d : Dv) (p u f : Value) (R : List Rng), DvOk d ∧ DvRd p u f d R ∧ DrH w C [.ob w.heap.size 27 (dvCells nilS dvNil nilS nilS), .ob B1 27 (dvCells p d u f), .rd R] wx)
            case first =>
              cases b
              · go_wp2_with fail
                go_meet
                exact ⟨d, _, _, _, _, HOk.out, HDa.out, (HS91.out).pull [0, 1, 2] rfl (pull_nd (HS91.out).nd [0, 1, 2] rfl (by decide))⟩
              · have HOx : Hid (DvOk X) := Lib.hid (inject_keep HOk.out HGf.out HX.out (HBc.out rfl))
                go_upto_region 7 with (fail)
                have HS93 : Hid (DrH w C [.ob (w.heap.size) 27 (dvCells nilS dvNil nilS nilS), .ob B1 27 (dvCells (.slice apa d.pages.length cpa) d (.slice aua d.unread.length cua) (.slice afa d.faults.length cfa)), .rd R, .ob B2 27 (dvCells (.slice apx X.pages.length cpx) X (.slice aux X.unread.length cux) (.slice afx X.faults.length cfx)), .rd Rx] w91) := HS91.out
                clear HS91
                go_wp2_with (first | ((with_reducible refine wpList_load_ob 27 (.tmp 6) B2 (dvCells (.slice apx X.pages.length cpx) X (.slice aux X.unread.length cux) (.slice afx X.faults.length cfx)) 27 HUD.out ?_ ?_ ?_ ?_ ?_); (exact rfl); (exact (HS93.out).get 3 rfl); (exact rfl); (exact info_dv); simp only [Act.put, List.setIfInBounds_toArray, List.set_cons_zero, List.set_cons_succ]) | ((with_reducible refine wpList_store_ob 27 (.tmp 3) B1 (dvCells (.slice apx X.pages.length cpx) X (.slice aux X.unread.length cux) (.slice afx X.faults.length cfx)) (dvCells (.slice apa d.pages.length cpa) d (.slice aua d.unread.length cua) (.slice afa d.faults.length cfa)) 27 ?_ ?_ ?_ ?_ ?_ ?_ ?_); (exact rfl); (exact rfl); (exact (HS93.out).get 1 rfl); (exact info_dv); (exact rfl); (exact (oneCell_dv _ _ _ _ _ _ _ _ _ _)); skip))
                have HS94 : Hid (DrH w C [.ob (w.heap.size) 27 (dvCells nilS dvNil nilS nilS), .ob B1 27 (dvCells (.slice apx X.pages.length cpx) X (.slice aux X.unread.length cux) (.slice afx X.faults.length cfx)), .rd R, .ob B2 27 (dvCells (.slice apx X.pages.length cpx) X (.slice aux X.unread.length cux) (.slice afx X.faults.length cfx)), .rd Rx] (w91.setRow B1 (dvCells (.slice apx X.pages.length cpx) X (.slice aux X.unread.length cux) (.slice afx X.faults.length cfx)).toArray)) := (HS93.out).row 1 rfl (dvCells (.slice apx X.pages.length cpx) X (.slice aux X.unread.length cux) (.slice afx X.faults.length cfx))
                clear HS93
                generalize (w91.setRow B1 (dvCells (.slice apx X.pages.length cpx) X (.slice aux X.unread.length cux) (.slice afx X.faults.length cfx)).toArray) = w93 at *
                go_meet
                exact ⟨X, _, _, _, _, HOx.out, HDvx.out, (HS94.out).pull [0, 1, 4] rfl (pull_nd (HS94.out).nd [0, 1, 4] rfl (by decide))⟩
            case rest =>
              obtain ⟨d1, p, u, f, R1, hok, hda, hs⟩ := hcut
              clear HOk HDa HDvx HGf HX HPl HBc HS91
              obtain ⟨apb, cpb, rfl, _⟩ := hda.pages
              obtain ⟨aub, cub, rfl, _⟩ := hda.unread
              obtain ⟨afb, cfb, rfl, _⟩ := hda.faults
              have HOk := Lib.hid hok
              have HDa := Lib.hid hda
              have HQ2 := Lib.hid hs
              have HPl : Hid (1 ≤ (d1.pages.length : Int) ∧ (d1.pages.length : Int) ≤ 256) := Lib.hid (by have := hok.some; omega)
              clear hda hs hok
              generalize wc = w100 at *
              go_upto_region 8 with (fail)
              refine wp_region_held_drew (S := fun w' => Hold w.heap.size [.ob B1 27 (dvCells (.slice apb d1.pages.length cpb) d1 (.slice aub d1.unread.length cub) (.slice afb d1.faults.length cfb))] w') (by kernel_rfl) ((HQ2.out).drew.pick [1] rfl) (fun hHeld => ?_)
              refine wpAnyH_take (i := 0) (oi := { dst := some 44, op := Op.load 27 (Operand.tmp 3), type := 27, pos := "draw.go:219", after := #[], guard := none }) rfl (by kernel_rfl) (by kernel_rfl) (by kernel_rfl) (fun _ _ _ h => h) (yieldsIf_load_mid (by rfl) 27 (.tmp 3) rfl B1 0 rfl (dvCells (.slice apb d1.pages.length cpb) d1 (.slice aub d1.unread.length cub) (.slice afb d1.faults.length cfb)) _ (fun _ h => h.whole 0 rfl) HUD.out rfl (info_dv)) hHeld ?_
              try simp only [Act.put, List.setIfInBounds_toArray, List.set_cons_zero, List.set_cons_succ]
              refine wpAnyH_take (i := 1) (oi := { dst := some 45, op := Op.move (Operand.tmp 0), type := 32, pos := "draw.go:219", after := #[], guard := none }) (v := ?q39v) rfl (by kernel_rfl) (by kernel_rfl) (by kernel_rfl) (fun _ _ _ h => h) (Or.inl ⟨by rfl, ?q39h⟩) hHeld ?q39r
              case q39h => (intro wq hSw; clear hSw; go_simp; try with_reducible rfl)
              try simp only [Act.put, List.setIfInBounds_toArray, List.set_cons_zero, List.set_cons_succ]
              refine wpAnyH_take (i := 2) (oi := { dst := some 46, op := Op.fieldAddr 27 (Operand.tmp 3) 0, type := 0, pos := "draw.go:219", after := #[], guard := none }) (v := ?q40v) rfl (by kernel_rfl) (by kernel_rfl) (by kernel_rfl) (fun _ _ _ h => h) (Or.inl ⟨by rfl, ?q40h⟩) hHeld ?q40r
              case q40h => (intro wq hSw; clear hSw; go_simp; try with_reducible rfl)
              try simp only [Act.put, List.setIfInBounds_toArray, List.set_cons_zero, List.set_cons_succ]
              refine wpAnyH_take (i := 3) (oi := { dst := some 47, op := Op.load 23 (Operand.tmp 46), type := 23, pos := "draw.go:219", after := #[{ on := 2, ground := Ground.data }], guard := none }) (v := ?q41v) rfl (by kernel_rfl) (by kernel_rfl) (by kernel_rfl) (fun _ _ _ h => h) (Or.inl ⟨by rfl, ?q41h⟩) hHeld ?q41r
              case q41h => (intro wq hSw; have q0 := hSw.at 0 rfl 0 rfl; clear hSw; go_simp; try with_reducible rfl)
              try simp only [Act.put, List.setIfInBounds_toArray, List.set_cons_zero, List.set_cons_succ]
              refine wpAnyH_take (i := 4) (oi := { dst := some 48, op := Op.call { callee := Callee.builtin Builtin.len, args := #[Operand.tmp 47], argTypes := #[23] }, type := 3, pos := "draw.go:219", after := #[{ on := 3, ground := Ground.data }], guard := none }) (v := ?q42v) rfl (by kernel_rfl) (by kernel_rfl) (by kernel_rfl) (fun _ _ _ h => h) (Or.inl ⟨by rfl, ?q42h⟩) hHeld ?q42r
              case q42h => (intro wq hSw; clear hSw; go_simp; try with_reducible rfl)
              try simp only [Act.put, List.setIfInBounds_toArray, List.set_cons_zero, List.set_cons_succ]
              refine wpAnyH_take (i := 6) (oi := { dst := some 50, op := Op.move (Operand.tmp 0), type := 32, pos := "draw.go:219", after := #[], guard := none }) (v := ?q43v) rfl (by kernel_rfl) (by kernel_rfl) (by kernel_rfl) (fun _ _ _ h => h) (Or.inl ⟨by rfl, ?q43h⟩) hHeld ?q43r
              case q43h => (intro wq hSw; clear hSw; go_simp; try with_reducible rfl)
              try simp only [Act.put, List.setIfInBounds_toArray, List.set_cons_zero, List.set_cons_succ]
              refine wpAnyH_ready (rs := [5, 12]) (by kernel_rfl) (by simp) ?_
              refine AllReadyH.cons (o := { dst := some 49, op := Op.call { callee := Callee.value (Operand.func 17), args := #[Operand.tmp 45, Operand.tmp 48], argTypes := #[32, 3] }, type := 3, pos := "draw.go:219", after := #[{ on := 1, ground := Ground.data }, { on := 4, ground := Ground.data }], guard := none }) rfl (fun K hK => ?_) (AllReadyH.cons (o := { dst := some 8, op := Op.alloc 27, type := 0, pos := "draw.go:219", after := #[], guard := none }) rfl (fun K hK => ?_) (AllReadyH.nil))
              · go_simp
                go_wp2_with (go_at_call 17; refine (next_any C d1.pages.length _ ((HQ2.out).drew).codes (Int.le_trans HPl.out.2 (by decide))).mono ?_; rintro e w111 ⟨qn, rfl, q0, q1, hb, hc⟩)
                have HS111 : Hid (DrH w C [.ob (w.heap.size) 27 (dvCells nilS dvNil nilS nilS), .ob B1 27 (dvCells (.slice apb d1.pages.length cpb) d1 (.slice aub d1.unread.length cub) (.slice afb d1.faults.length cfb)), .rd R1] w111) := ((HQ2.out).drew).draws hb hc
                refine hK.out _ _ (HS111.out.pick [1] rfl) (fun hHeld => ?_)
                clear hK K hb hc
                obtain ⟨q, rfl⟩ := Int.eq_ofNat_of_zero_le q0
                clear q0 q1
                try simp only [Act.put, List.setIfInBounds_toArray, List.set_cons_zero, List.set_cons_succ]
                refine wpAnyH_ready (rs := [7, 12]) (by kernel_rfl) (by simp) ?_
                refine AllReadyH.cons (o := { dst := some 51, op := Op.call { callee := Callee.value (Operand.func 18), args := #[Operand.tmp 50], argTypes := #[32] }, type := 9, pos := "draw.go:219", after := #[{ on := 6, ground := Ground.data }, { on := 5, ground := Ground.chain }], guard := none }) rfl (fun K hK => ?_) (AllReadyH.cons (o := { dst := some 8, op := Op.alloc 27, type := 0, pos := "draw.go:219", after := #[], guard := none }) rfl (fun K hK => ?_) (AllReadyH.nil))
                · go_simp
                  go_wp2_with (go_at_call 18; refine (bytes_any C _ (HS111.out).codes).mono ?_; rintro e w112 ⟨s, rfl, hs2, hb, hc⟩)
                  have HS112 : Hid (DrH w C [.ob (w.heap.size) 27 (dvCells nilS dvNil nilS nilS), .ob B1 27 (dvCells (.slice apb d1.pages.length cpb) d1 (.slice aub d1.unread.length cub) (.slice afb d1.faults.length cfb)), .rd R1] w112) := (HS111.out).draws hb hc
                  refine hK.out _ _ (HS112.out.pick [1] rfl) (fun hHeld => ?_)
                  clear hK K hb hc
                  have HSz := Lib.hid hs2
                  have HSm : Hid (s.size ≤ maxLen) := by show _ ≤ _; rw [hs2]; decide
                  clear hs2
                  try simp only [Act.put, List.setIfInBounds_toArray, List.set_cons_zero, List.set_cons_succ]
                  refine wpAnyH_ready (rs := [8, 12]) (by kernel_rfl) (by simp) ?_
                  refine AllReadyH.cons (o := { dst := some 52, op := Op.call { callee := Callee.value (Operand.func 21), args := #[Operand.tmp 44, Operand.tmp 49, Operand.tmp 51], argTypes := #[27, 3, 9] }, type := 36, pos := "draw.go:219", after := #[{ on := 0, ground := Ground.data }, { on := 5, ground := Ground.data }, { on := 7, ground := Ground.data }, { on := 7, ground := Ground.chain }], guard := none }) rfl (fun K hK => ?_) (AllReadyH.cons (o := { dst := some 8, op := Op.alloc 27, type := 0, pos := "draw.go:219", after := #[], guard := none }) rfl (fun K hK => ?_) (AllReadyH.nil))
                  · obtain ⟨Y, cY, hY⟩ : ∃ Y cY, writeR d1 q s = (Y, cY) := ⟨_, _, rfl⟩
                    have HY := Lib.hid hY
                    clear hY
                    go_simp
                    go_wp2_with (go_at_call 21; refine (dv_as HY.out (rwrite_any q s _ HDa.out ((HS112.out).reads 2 rfl) HOk.out.goodDv HSm.out HOk.out.pg HOk.out.fl)).mono ?_; rintro e w113 ⟨py, uy, fy, Ry, rfl, hrd, hin, hnew, hb⟩)
                    obtain ⟨apy, cpy, rfl, _⟩ := hrd.pages
                    obtain ⟨auy, cuy, rfl, _⟩ := hrd.unread
                    obtain ⟨afy, cfy, rfl, _⟩ := hrd.faults
                    have HDvy := Lib.hid hrd
                    have HS113 : Hid (DrH w C [.ob (w.heap.size) 27 (dvCells nilS dvNil nilS nilS), .ob B1 27 (dvCells (.slice apb d1.pages.length cpb) d1 (.slice aub d1.unread.length cub) (.slice afb d1.faults.length cfb)), .rd R1, .rd Ry] w113) := (HS112.out).addrd hb Ry hin (fun r hr => (hnew r hr).elim .inl (fun h => .inr ⟨.rd R1, List.mem_of_getElem? (i := 2) rfl, List.mem_map.2 ⟨r, h, rfl⟩⟩))
                    refine hK.out _ _ (HS113.out.pick [1] rfl) (fun hHeld => ?_)
                    clear hK K hb hin hnew hrd
                    try simp only [Act.put, List.setIfInBounds_toArray, List.set_cons_zero, List.set_cons_succ]
                    refine wpAnyH_take (i := 9) (oi := { dst := some 43, op := Op.move (Operand.tmp 52), type := 36, pos := "draw.go:219", after := #[{ on := 8, ground := Ground.data }], guard := none }) (v := ?q44v) rfl (by kernel_rfl) (by kernel_rfl) (by kernel_rfl) (fun _ _ _ h => h) (Or.inl ⟨by rfl, ?q44h⟩) hHeld ?q44r
                    case q44h => (intro wq hSw; clear hSw; go_simp; try with_reducible rfl)
                    try simp only [Act.put, List.setIfInBounds_toArray, List.set_cons_zero, List.set_cons_succ]
                    refine wpAnyH_take (i := 10) (oi := { dst := some 53, op := Op.extract (Operand.tmp 43) 0, type := 27, pos := "draw.go:219", after := #[{ on := 9, ground := Ground.data }], guard := none }) (v := ?q45v) rfl (by kernel_rfl) (by kernel_rfl) (by kernel_rfl) (fun _ _ _ h => h) (Or.inl ⟨by rfl, ?q45h⟩) hHeld ?q45r
                    case q45h => (intro wq hSw; clear hSw; go_simp; try with_reducible rfl)
                    try simp only [Act.put, List.setIfInBounds_toArray, List.set_cons_zero, List.set_cons_succ]
                    refine wpAnyH_take (i := 11) (oi := { dst := some 54, op := Op.extract (Operand.tmp 43) 1, type := 35, pos := "draw.go:219", after := #[{ on := 9, ground := Ground.data }, { on := 13, ground := Ground.gcOnly Departure.lateStores }], guard := none }) (v := ?q46v) rfl (by kernel_rfl) (by kernel_rfl) (by kernel_rfl) (fun _ _ _ h => h) (Or.inl ⟨by rfl, ?q46h⟩) hHeld ?q46r
                    case q46h => (intro wq hSw; clear hSw; go_simp; try with_reducible rfl)
                    try simp only [Act.put, List.setIfInBounds_toArray, List.set_cons_zero, List.set_cons_succ]
                    refine wpAnyH_ready (rs := [12]) (by kernel_rfl) (by simp) ?_
                    refine AllReadyH.cons (o := { dst := some 8, op := Op.alloc 27, type := 0, pos := "draw.go:219", after := #[], guard := none }) rfl (fun K hK => ?_) (AllReadyH.nil)
                    rw [if_pos (by rfl)]
                    refine wp_alloc_ob 27 (dvCells nilS dvNil nilS nilS) rfl alloc_dv ?_
                    have HS114 : Hid (DrH w C [.ob (w.heap.size) 27 (dvCells nilS dvNil nilS nilS), .ob B1 27 (dvCells (.slice apb d1.pages.length cpb) d1 (.slice aub d1.unread.length cub) (.slice afb d1.faults.length cfb)), .rd R1, .rd Ry, .ob (w113.heap.size) 27 (dvCells nilS dvNil nilS nilS)] (w113.alloc (.cells (dvCells nilS dvNil nilS nilS).toArray 27))) := (HS113.out).put 27 (dvCells nilS dvNil nilS nilS)
                    refine hK.out _ _ (HS114.out.pick [1] rfl) (fun hHeld => ?_)
                    clear hK K
                    generalize (w113.alloc (.cells (dvCells nilS dvNil nilS nilS).toArray 27)) = w114 at *
                    generalize w113.heap.size = B3 at *
                    try simp only [Act.put, List.setIfInBounds_toArray, List.set_cons_zero, List.set_cons_succ]
                    refine wpAnyH_ready (rs := [13]) (by kernel_rfl) (by simp) ?_
                    refine AllReadyH.cons (o := { dst := none, op := Op.store 27 (Operand.tmp 8) (Operand.tmp 53), type := 0, pos := "draw.go:219", after := #[{ on := 12, ground := Ground.data }, { on := 10, ground := Ground.data }, { on := 8, ground := Ground.chain }, { on := 0, ground := Ground.phase }, { on := 1, ground := Ground.phase }, { on := 2, ground := Ground.phase }, { on := 3, ground := Ground.phase }, { on := 4, ground := Ground.phase }, { on := 5, ground := Ground.phase }, { on := 6, ground := Ground.phase }, { on := 7, ground := Ground.phase }, { on := 8, ground := Ground.phase }, { on := 9, ground := Ground.phase }, { on := 10, ground := Ground.phase }, { on := 11, ground := Ground.textOnly Departure.lateStores }, { on := 12, ground := Ground.phase }], guard := none }) rfl (fun K hK => ?_) (AllReadyH.nil)
                    rw [if_pos (by rfl)]
                    refine wp_store_ob 27 (.tmp 8) (.tmp 53) B3 (dvCells (.slice apy Y.pages.length cpy) Y (.slice auy Y.unread.length cuy) (.slice afy Y.faults.length cfy)) (dvCells nilS dvNil nilS nilS) 27 rfl rfl rfl rfl ((HS114.out).get 4 rfl) (info_dv) (rfl) ((oneCell_dv _ _ _ _ _ _ _ _ _ _)) ?_
                    have HS115 : Hid (DrH w C [.ob (w.heap.size) 27 (dvCells nilS dvNil nilS nilS), .ob B1 27 (dvCells (.slice apb d1.pages.length cpb) d1 (.slice aub d1.unread.length cub) (.slice afb d1.faults.length cfb)), .rd R1, .rd Ry, .ob B3 27 (dvCells (.slice apy Y.pages.length cpy) Y (.slice auy Y.unread.length cuy) (.slice afy Y.faults.length cfy))] (w114.setRow B3 (dvCells (.slice apy Y.pages.length cpy) Y (.slice auy Y.unread.length cuy) (.slice afy Y.faults.length cfy)).toArray)) := (HS114.out).row 4 rfl (dvCells (.slice apy Y.pages.length cpy) Y (.slice auy Y.unread.length cuy) (.slice afy Y.faults.length cfy))
                    refine hK.out _ _ (HS115.out.pick [1] rfl) (fun hHeld => ?_)
                    clear hK K
                    generalize (w114.setRow B3 (dvCells (.slice apy Y.pages.length cpy) Y (.slice auy Y.unread.length cuy) (.slice afy Y.faults.length cfy)).toArray) = w115 at *
                    try simp only [Act.put, List.setIfInBounds_toArray, List.set_cons_zero, List.set_cons_succ]
                    refine wpAnyH_take (i := 14) (oi := { dst := some 9, op := Op.assign (Operand.tmp 54), type := 35, pos := "draw.go:219", after := #[{ on := 11, ground := Ground.data }, { on := 13, ground := Ground.chain }, { on := 0, ground := Ground.phase }, { on := 1, ground := Ground.phase }, { on := 2, ground := Ground.phase }, { on := 3, ground := Ground.phase }, { on := 4, ground := Ground.phase }, { on := 5, ground := Ground.phase }, { on := 6, ground := Ground.phase }, { on := 7, ground := Ground.phase }, { on := 8, ground := Ground.phase }, { on := 9, ground := Ground.phase }, { on := 10, ground := Ground.phase }, { on := 11, ground := Ground.phase }, { on := 12, ground := Ground.phase }, { on := 13, ground := Ground.phase }], guard := none }) (v := ?q47v) rfl (by kernel_rfl) (by kernel_rfl) (by kernel_rfl) (fun _ _ _ h => h) (Or.inl ⟨by rfl, ?q47h⟩) hHeld ?q47r
                    case q47h => (intro wq hSw; clear hSw; go_simp; try with_reducible rfl)
                    try simp only [Act.put, List.setIfInBounds_toArray, List.set_cons_zero, List.set_cons_succ]
                    refine wpAnyH_done (by kernel_rfl) ?_ _
                    clear hHeld
                    have HS116 : Hid (DrH w C [.ob (w.heap.size) 27 (dvCells nilS dvNil nilS nilS), .ob B1 27 (dvCells (.slice apb d1.pages.length cpb) d1 (.slice aub d1.unread.length cub) (.slice afb d1.faults.length cfb)), .rd R1, .rd Ry, .ob B3 27 (dvCells (.slice apy Y.pages.length cpy) Y (.slice auy Y.unread.length cuy) (.slice afy Y.faults.length cfy))] w115) := HS115.out
                    clear HS115
                    have HS117 : Hid (DrH w C [.ob (w.heap.size) 27 (dvCells nilS dvNil nilS nilS), .ob B1 27 (dvCells (.slice apb d1.pages.length cpb) d1 (.slice aub d1.unread.length cub) (.slice afb d1.faults.length cfb)), .rd R1, .ob B3 27 (dvCells (.slice apy Y.pages.length cpy) Y (.slice auy Y.unread.length cuy) (.slice afy Y.faults.length cfy)), .rd Ry] w115) := HS116.out.pull [0, 1, 2, 4, 3] rfl (pull_nd HS116.out.nd [0, 1, 2, 4, 3] rfl (by decide))
                    clear HS116
                    have hiw := HIw.out
                    by_cases hc0 : cY = 0
                    · have HOy : Hid (DvOk Y) := Lib.hid (write_keep HOk.out HSz.out HY.out hc0)
                      subst hc0
                      go_upto_region 10 with (fail)
                      have HS118 : Hid (DrH w C [.ob (w.heap.size) 27 (dvCells nilS dvNil nilS nilS), .ob B1 27 (dvCells (.slice apb d1.pages.length cpb) d1 (.slice aub d1.unread.length cub) (.slice afb d1.faults.length cfb)), .rd R1, .ob B3 27 (dvCells (.slice apy Y.pages.length cpy) Y (.slice auy Y.unread.length cuy) (.slice afy Y.faults.length cfy)), .rd Ry] w115) := HS117.out
                      clear HS117
                      go_wp2_with (first | ((with_reducible refine wpList_load_ob 27 (.tmp 8) B3 (dvCells (.slice apy Y.pages.length cpy) Y (.slice auy Y.unread.length cuy) (.slice afy Y.faults.length cfy)) 27 HUD.out ?_ ?_ ?_ ?_ ?_); (exact rfl); (exact (HS118.out).get 3 rfl); (exact rfl); (exact info_dv); simp only [Act.put, List.setIfInBounds_toArray, List.set_cons_zero, List.set_cons_succ]) | ((with_reducible refine wpList_store_ob 27 (.tmp 3) B1 (dvCells (.slice apy Y.pages.length cpy) Y (.slice auy Y.unread.length cuy) (.slice afy Y.faults.length cfy)) (dvCells (.slice apb d1.pages.length cpb) d1 (.slice aub d1.unread.length cub) (.slice afb d1.faults.length cfb)) 27 ?_ ?_ ?_ ?_ ?_ ?_ ?_); (exact rfl); (exact rfl); (exact (HS118.out).get 1 rfl); (exact info_dv); (exact rfl); (exact (oneCell_dv _ _ _ _ _ _ _ _ _ _)); skip))
                      go_roundw
                      case rel => exact ⟨Y, _, _, _, _, i - 1, rfl, by have := HI.out; omega, by have := HI.out; omega, HOy.out, HDvy.out, ((HS118.out).row 1 rfl (dvCells (.slice apy Y.pages.length cpy) Y (.slice auy Y.unread.length cuy) (.slice afy Y.faults.length cfy))).pull [0, 1, 4] rfl (pull_nd ((HS118.out).row 1 rfl (dvCells (.slice apy Y.pages.length cpy) Y (.slice auy Y.unread.length cuy) (.slice afy Y.faults.length cfy))).nd [0, 1, 4] rfl (by decide))⟩
                      case measure => simp [intOf]; have := HI.out; omega
                    · have hcb : (cY == 0) = false := by rw [beq_eq_false_iff_ne]; exact hc0
                      clear hc0
                      go_wp2_with fail
                      go_roundw
                      case rel => exact ⟨d1, _, _, _, _, i - 1, rfl, by have := HI.out; omega, by have := HI.out; omega, HOk.out, HDa.out, (HS117.out).pull [0, 1, 2] rfl (pull_nd (HS117.out).nd [0, 1, 2] rfl (by decide))⟩
                      case measure => simp [intOf]; have := HI.out; omega
                  · rw [if_pos (by rfl)]
                    refine wp_alloc_ob 27 (dvCells nilS dvNil nilS nilS) rfl alloc_dv ?_
                    have HS113 : Hid (DrH w C [.ob (w.heap.size) 27 (dvCells nilS dvNil nilS nilS), .ob B1 27 (dvCells (.slice apb d1.pages.length cpb) d1 (.slice aub d1.unread.length cub) (.slice afb d1.faults.length cfb)), .rd R1, .ob (w112.heap.size) 27 (dvCells nilS dvNil nilS nilS)] (w112.alloc (.cells (dvCells nilS dvNil nilS nilS).toArray 27))) := (HS112.out).put 27 (dvCells nilS dvNil nilS nilS)
                    refine hK.out _ _ (HS113.out.pick [1] rfl) (fun hHeld => ?_)
                    clear hK K
                    generalize (w112.alloc (.cells (dvCells nilS dvNil nilS nilS).toArray 27)) = w113 at *
                    generalize w112.heap.size = B3 at *
                    try simp only [Act.put, List.setIfInBounds_toArray, List.set_cons_zero, List.set_cons_succ]
                    refine wpAnyH_ready (rs := [8]) (by kernel_rfl) (by simp) ?_
                    refine AllReadyH.cons (o := { dst := some 52, op := Op.call { callee := Callee.value (Operand.func 21), args := #[Operand.tmp 44, Operand.tmp 49, Operand.tmp 51], argTypes := #[27, 3, 9] }, type := 36, pos := "draw.go:219", after := #[{ on := 0, ground := Ground.data }, { on := 5, ground := Ground.data }, { on := 7, ground := Ground.data }, { on := 7, ground := Ground.chain }], guard := none }) rfl (fun K hK => ?_) (AllReadyH.nil)
                    obtain ⟨Y, cY, hY⟩ : ∃ Y cY, writeR d1 q s = (Y, cY) := ⟨_, _, rfl⟩
                    have HY := Lib.hid hY
                    clear hY
                    go_simp
                    go_wp2_with (go_at_call 21; refine (dv_as HY.out (rwrite_any q s _ HDa.out ((HS113.out).reads 2 rfl) HOk.out.goodDv HSm.out HOk.out.pg HOk.out.fl)).mono ?_; rintro e w114 ⟨py, uy, fy, Ry, rfl, hrd, hin, hnew, hb⟩)
                    obtain ⟨apy, cpy, rfl, _⟩ := hrd.pages
                    obtain ⟨auy, cuy, rfl, _⟩ := hrd.unread
                    obtain ⟨afy, cfy, rfl, _⟩ := hrd.faults
                    have HDvy := Lib.hid hrd
                    have HS114 : Hid (DrH w C [.ob (w.heap.size) 27 (dvCells nilS dvNil nilS nilS), .ob B1 27 (dvCells (.slice apb d1.pages.length cpb) d1 (.slice aub d1.unread.length cub) (.slice afb d1.faults.length cfb)), .rd R1, .ob B3 27 (dvCells nilS dvNil nilS nilS), .rd Ry] w114) := (HS113.out).addrd hb Ry hin (fun r hr => (hnew r hr).elim .inl (fun h => .inr ⟨.rd R1, List.mem_of_getElem? (i := 2) rfl, List.mem_map.2 ⟨r, h, rfl⟩⟩))
                    refine hK.out _ _ (HS114.out.pick [1] rfl) (fun hHeld => ?_)
                    clear hK K hb hin hnew hrd
                    try simp only [Act.put, List.setIfInBounds_toArray, List.set_cons_zero, List.set_cons_succ]
                    refine wpAnyH_take (i := 9) (oi := { dst := some 43, op := Op.move (Operand.tmp 52), type := 36, pos := "draw.go:219", after := #[{ on := 8, ground := Ground.data }], guard := none }) (v := ?q48v) rfl (by kernel_rfl) (by kernel_rfl) (by kernel_rfl) (fun _ _ _ h => h) (Or.inl ⟨by rfl, ?q48h⟩) hHeld ?q48r
                    case q48h => (intro wq hSw; clear hSw; go_simp; try with_reducible rfl)
                    try simp only [Act.put, List.setIfInBounds_toArray, List.set_cons_zero, List.set_cons_succ]
                    refine wpAnyH_take (i := 10) (oi := { dst := some 53, op := Op.extract (Operand.tmp 43) 0, type := 27, pos := "draw.go:219", after := #[{ on := 9, ground := Ground.data }], guard := none }) (v := ?q49v) rfl (by kernel_rfl) (by kernel_rfl) (by kernel_rfl) (fun _ _ _ h => h) (Or.inl ⟨by rfl, ?q49h⟩) hHeld ?q49r
                    case q49h => (intro wq hSw; clear hSw; go_simp; try with_reducible rfl)
                    try simp only [Act.put, List.setIfInBounds_toArray, List.set_cons_zero, List.set_cons_succ]
                    refine wpAnyH_take (i := 11) (oi := { dst := some 54, op := Op.extract (Operand.tmp 43) 1, type := 35, pos := "draw.go:219", after := #[{ on := 9, ground := Ground.data }, { on := 13, ground := Ground.gcOnly Departure.lateStores }], guard := none }) (v := ?q50v) rfl (by kernel_rfl) (by kernel_rfl) (by kernel_rfl) (fun _ _ _ h => h) (Or.inl ⟨by rfl, ?q50h⟩) hHeld ?q50r
                    case q50h => (intro wq hSw; clear hSw; go_simp; try with_reducible rfl)
                    try simp only [Act.put, List.setIfInBounds_toArray, List.set_cons_zero, List.set_cons_succ]
                    refine wpAnyH_ready (rs := [13]) (by kernel_rfl) (by simp) ?_
                    refine AllReadyH.cons (o := { dst := none, op := Op.store 27 (Operand.tmp 8) (Operand.tmp 53), type := 0, pos := "draw.go:219", after := #[{ on := 12, ground := Ground.data }, { on := 10, ground := Ground.data }, { on := 8, ground := Ground.chain }, { on := 0, ground := Ground.phase }, { on := 1, ground := Ground.phase }, { on := 2, ground := Ground.phase }, { on := 3, ground := Ground.phase }, { on := 4, ground := Ground.phase }, { on := 5, ground := Ground.phase }, { on := 6, ground := Ground.phase }, { on := 7, ground := Ground.phase }, { on := 8, ground := Ground.phase }, { on := 9, ground := Ground.phase }, { on := 10, ground := Ground.phase }, { on := 11, ground := Ground.textOnly Departure.lateStores }, { on := 12, ground := Ground.phase }], guard := none }) rfl (fun K hK => ?_) (AllReadyH.nil)
                    rw [if_pos (by rfl)]
                    refine wp_store_ob 27 (.tmp 8) (.tmp 53) B3 (dvCells (.slice apy Y.pages.length cpy) Y (.slice auy Y.unread.length cuy) (.slice afy Y.faults.length cfy)) (dvCells nilS dvNil nilS nilS) 27 rfl rfl rfl rfl ((HS114.out).get 3 rfl) (info_dv) (rfl) ((oneCell_dv _ _ _ _ _ _ _ _ _ _)) ?_
                    have HS115 : Hid (DrH w C [.ob (w.heap.size) 27 (dvCells nilS dvNil nilS nilS), .ob B1 27 (dvCells (.slice apb d1.pages.length cpb) d1 (.slice aub d1.unread.length cub) (.slice afb d1.faults.length cfb)), .rd R1, .ob B3 27 (dvCells (.slice apy Y.pages.length cpy) Y (.slice auy Y.unread.length cuy) (.slice afy Y.faults.length cfy)), .rd Ry] (w114.setRow B3 (dvCells (.slice apy Y.pages.length cpy) Y (.slice auy Y.unread.length cuy) (.slice afy Y.faults.length cfy)).toArray)) := (HS114.out).row 3 rfl (dvCells (.slice apy Y.pages.length cpy) Y (.slice auy Y.unread.length cuy) (.slice afy Y.faults.length cfy))
                    refine hK.out _ _ (HS115.out.pick [1] rfl) (fun hHeld => ?_)
                    clear hK K
                    generalize (w114.setRow B3 (dvCells (.slice apy Y.pages.length cpy) Y (.slice auy Y.unread.length cuy) (.slice afy Y.faults.length cfy)).toArray) = w115 at *
                    try simp only [Act.put, List.setIfInBounds_toArray, List.set_cons_zero, List.set_cons_succ]
                    refine wpAnyH_take (i := 14) (oi := { dst := some 9, op := Op.assign (Operand.tmp 54), type := 35, pos := "draw.go:219", after := #[{ on := 11, ground := Ground.data }, { on := 13, ground := Ground.chain }, { on := 0, ground := Ground.phase }, { on := 1, ground := Ground.phase }, { on := 2, ground := Ground.phase }, { on := 3, ground := Ground.phase }, { on := 4, ground := Ground.phase }, { on := 5, ground := Ground.phase }, { on := 6, ground := Ground.phase }, { on := 7, ground := Ground.phase }, { on := 8, ground := Ground.phase }, { on := 9, ground := Ground.phase }, { on := 10, ground := Ground.phase }, { on := 11, ground := Ground.phase }, { on := 12, ground := Ground.phase }, { on := 13, ground := Ground.phase }], guard := none }) (v := ?q51v) rfl (by kernel_rfl) (by kernel_rfl) (by kernel_rfl) (fun _ _ _ h => h) (Or.inl ⟨by rfl, ?q51h⟩) hHeld ?q51r
                    case q51h => (intro wq hSw; clear hSw; go_simp; try with_reducible rfl)
                    try simp only [Act.put, List.setIfInBounds_toArray, List.set_cons_zero, List.set_cons_succ]
                    refine wpAnyH_done (by kernel_rfl) ?_ _
                    clear hHeld
                    have HS116 : Hid (DrH w C [.ob (w.heap.size) 27 (dvCells nilS dvNil nilS nilS), .ob B1 27 (dvCells (.slice apb d1.pages.length cpb) d1 (.slice aub d1.unread.length cub) (.slice afb d1.faults.length cfb)), .rd R1, .ob B3 27 (dvCells (.slice apy Y.pages.length cpy) Y (.slice auy Y.unread.length cuy) (.slice afy Y.faults.length cfy)), .rd Ry] w115) := HS115.out
                    clear HS115
                    have HS117 : Hid (DrH w C [.ob (w.heap.size) 27 (dvCells nilS dvNil nilS nilS), .ob B1 27 (dvCells (.slice apb d1.pages.length cpb) d1 (.slice aub d1.unread.length cub) (.slice afb d1.faults.length cfb)), .rd R1, .ob B3 27 (dvCells (.slice apy Y.pages.length cpy) Y (.slice auy Y.unread.length cuy) (.slice afy Y.faults.length cfy)), .rd Ry] w115) := HS116.out.pull [0, 1, 2, 3, 4] rfl (pull_nd HS116.out.nd [0, 1, 2, 3, 4] rfl (by decide))
                    clear HS116
                    have hiw := HIw.out
                    by_cases hc0 : cY = 0
                    · have HOy : Hid (DvOk Y) := Lib.hid (write_keep HOk.out HSz.out HY.out hc0)
                      subst hc0
                      go_upto_region 10 with (fail)
                      have HS118 : Hid (DrH w C [.ob (w.heap.size) 27 (dvCells nilS dvNil nilS nilS), .ob B1 27 (dvCells (.slice apb d1.pages.length cpb) d1 (.slice aub d1.unread.length cub) (.slice afb d1.faults.length cfb)), .rd R1, .ob B3 27 (dvCells (.slice apy Y.pages.length cpy) Y (.slice auy Y.unread.length cuy) (.slice afy Y.faults.length cfy)), .rd Ry] w115) := HS117.out
                      clear HS117
                      go_wp2_with (first | ((with_reducible refine wpList_load_ob 27 (.tmp 8) B3 (dvCells (.slice apy Y.pages.length cpy) Y (.slice auy Y.unread.length cuy) (.slice afy Y.faults.length cfy)) 27 HUD.out ?_ ?_ ?_ ?_ ?_); (exact rfl); (exact (HS118.out).get 3 rfl); (exact rfl); (exact info_dv); simp only [Act.put, List.setIfInBounds_toArray, List.set_cons_zero, List.set_cons_succ]) | ((with_reducible refine wpList_store_ob 27 (.tmp 3) B1 (dvCells (.slice apy Y.pages.length cpy) Y (.slice auy Y.unread.length cuy) (.slice afy Y.faults.length cfy)) (dvCells (.slice apb d1.pages.length cpb) d1 (.slice aub d1.unread.length cub) (.slice afb d1.faults.length cfb)) 27 ?_ ?_ ?_ ?_ ?_ ?_ ?_); (exact rfl); (exact rfl); (exact (HS118.out).get 1 rfl); (exact info_dv); (exact rfl); (exact (oneCell_dv _ _ _ _ _ _ _ _ _ _)); skip))
                      go_roundw
                      case rel => exact ⟨Y, _, _, _, _, i - 1, rfl, by have := HI.out; omega, by have := HI.out; omega, HOy.out, HDvy.out, ((HS118.out).row 1 rfl (dvCells (.slice apy Y.pages.length cpy) Y (.slice auy Y.unread.length cuy) (.slice afy Y.faults.length cfy))).pull [0, 1, 4] rfl (pull_nd ((HS118.out).row 1 rfl (dvCells (.slice apy Y.pages.length cpy) Y (.slice auy Y.unread.length cuy) (.slice afy Y.faults.length cfy))).nd [0, 1, 4] rfl (by decide))⟩
                      case measure => simp [intOf]; have := HI.out; omega
                    · have hcb : (cY == 0) = false := by rw [beq_eq_false_iff_ne]; exact hc0
                      clear hc0
                      go_wp2_with fail
                      go_roundw
                      case rel => exact ⟨d1, _, _, _, _, i - 1, rfl, by have := HI.out; omega, by have := HI.out; omega, HOk.out, HDa.out, (HS117.out).pull [0, 1, 2] rfl (pull_nd (HS117.out).nd [0, 1, 2] rfl (by decide))⟩
                      case measure => simp [intOf]; have := HI.out; omega
                · rw [if_pos (by rfl)]
                  refine wp_alloc_ob 27 (dvCells nilS dvNil nilS nilS) rfl alloc_dv ?_
                  have HS112 : Hid (DrH w C [.ob (w.heap.size) 27 (dvCells nilS dvNil nilS nilS), .ob B1 27 (dvCells (.slice apb d1.pages.length cpb) d1 (.slice aub d1.unread.length cub) (.slice afb d1.faults.length cfb)), .rd R1, .ob (w111.heap.size) 27 (dvCells nilS dvNil nilS nilS)] (w111.alloc (.cells (dvCells nilS dvNil nilS nilS).toArray 27))) := (HS111.out).put 27 (dvCells nilS dvNil nilS nilS)
                  refine hK.out _ _ (HS112.out.pick [1] rfl) (fun hHeld => ?_)
                  clear hK K
                  generalize (w111.alloc (.cells (dvCells nilS dvNil nilS nilS).toArray 27)) = w112 at *
                  generalize w111.heap.size = B3 at *
                  try simp only [Act.put, List.setIfInBounds_toArray, List.set_cons_zero, List.set_cons_succ]
                  refine wpAnyH_ready (rs := [7]) (by kernel_rfl) (by simp) ?_
                  refine AllReadyH.cons (o := { dst := some 51, op := Op.call { callee := Callee.value (Operand.func 18), args := #[Operand.tmp 50], argTypes := #[32] }, type := 9, pos := "draw.go:219", after := #[{ on := 6, ground := Ground.data }, { on := 5, ground := Ground.chain }], guard := none }) rfl (fun K hK => ?_) (AllReadyH.nil)
                  go_simp
                  go_wp2_with (go_at_call 18; refine (bytes_any C _ (HS112.out).codes).mono ?_; rintro e w113 ⟨s, rfl, hs2, hb, hc⟩)
                  have HS113 : Hid (DrH w C [.ob (w.heap.size) 27 (dvCells nilS dvNil nilS nilS), .ob B1 27 (dvCells (.slice apb d1.pages.length cpb) d1 (.slice aub d1.unread.length cub) (.slice afb d1.faults.length cfb)), .rd R1, .ob B3 27 (dvCells nilS dvNil nilS nilS)] w113) := (HS112.out).draws hb hc
                  refine hK.out _ _ (HS113.out.pick [1] rfl) (fun hHeld => ?_)
                  clear hK K hb hc
                  have HSz := Lib.hid hs2
                  have HSm : Hid (s.size ≤ maxLen) := by show _ ≤ _; rw [hs2]; decide
                  clear hs2
                  try simp only [Act.put, List.setIfInBounds_toArray, List.set_cons_zero, List.set_cons_succ]
                  refine wpAnyH_ready (rs := [8]) (by kernel_rfl) (by simp) ?_
                  refine AllReadyH.cons (o := { dst := some 52, op := Op.call { callee := Callee.value (Operand.func 21), args := #[Operand.tmp 44, Operand.tmp 49, Operand.tmp 51], argTypes := #[27, 3, 9] }, type := 36, pos := "draw.go:219", after := #[{ on := 0, ground := Ground.data }, { on := 5, ground := Ground.data }, { on := 7, ground := Ground.data }, { on := 7, ground := Ground.chain }], guard := none }) rfl (fun K hK => ?_) (AllReadyH.nil)
                  obtain ⟨Y, cY, hY⟩ : ∃ Y cY, writeR d1 q s = (Y, cY) := ⟨_, _, rfl⟩
                  have HY := Lib.hid hY
                  clear hY
                  go_simp
                  go_wp2_with (go_at_call 21; refine (dv_as HY.out (rwrite_any q s _ HDa.out ((HS113.out).reads 2 rfl) HOk.out.goodDv HSm.out HOk.out.pg HOk.out.fl)).mono ?_; rintro e w114 ⟨py, uy, fy, Ry, rfl, hrd, hin, hnew, hb⟩)
                  obtain ⟨apy, cpy, rfl, _⟩ := hrd.pages
                  obtain ⟨auy, cuy, rfl, _⟩ := hrd.unread
                  obtain ⟨afy, cfy, rfl, _⟩ := hrd.faults
                  have HDvy := Lib.hid hrd
                  have HS114 : Hid (DrH w C [.ob (w.heap.size) 27 (dvCells nilS dvNil nilS nilS), .ob B1 27 (dvCells (.slice apb d1.pages.length cpb) d1 (.slice aub d1.unread.length cub) (.slice afb d1.faults.length cfb)), .rd R1, .ob B3 27 (dvCells nilS dvNil nilS nilS), .rd Ry] w114) := (HS113.out).addrd hb Ry hin (fun r hr => (hnew r hr).elim .inl (fun h => .inr ⟨.rd R1, List.mem_of_getElem? (i := 2) rfl, List.mem_map.2 ⟨r, h, rfl⟩⟩))
                  refine hK.out _ _ (HS114.out.pick [1] rfl) (fun hHeld => ?_)
                  clear hK K hb hin hnew hrd
                  try simp only [Act.put, List.setIfInBounds_toArray, List.set_cons_zero, List.set_cons_succ]
                  refine wpAnyH_take (i := 9) (oi := { dst := some 43, op := Op.move (Operand.tmp 52), type := 36, pos := "draw.go:219", after := #[{ on := 8, ground := Ground.data }], guard := none }) (v := ?q52v) rfl (by kernel_rfl) (by kernel_rfl) (by kernel_rfl) (fun _ _ _ h => h) (Or.inl ⟨by rfl, ?q52h⟩) hHeld ?q52r
                  case q52h => (intro wq hSw; clear hSw; go_simp; try with_reducible rfl)
                  try simp only [Act.put, List.setIfInBounds_toArray, List.set_cons_zero, List.set_cons_succ]
                  refine wpAnyH_take (i := 10) (oi := { dst := some 53, op := Op.extract (Operand.tmp 43) 0, type := 27, pos := "draw.go:219", after := #[{ on := 9, ground := Ground.data }], guard := none }) (v := ?q53v) rfl (by kernel_rfl) (by kernel_rfl) (by kernel_rfl) (fun _ _ _ h => h) (Or.inl ⟨by rfl, ?q53h⟩) hHeld ?q53r
                  case q53h => (intro wq hSw; clear hSw; go_simp; try with_reducible rfl)
                  try simp only [Act.put, List.setIfInBounds_toArray, List.set_cons_zero, List.set_cons_succ]
                  refine wpAnyH_take (i := 11) (oi := { dst := some 54, op := Op.extract (Operand.tmp 43) 1, type := 35, pos := "draw.go:219", after := #[{ on := 9, ground := Ground.data }, { on := 13, ground := Ground.gcOnly Departure.lateStores }], guard := none }) (v := ?q54v) rfl (by kernel_rfl) (by kernel_rfl) (by kernel_rfl) (fun _ _ _ h => h) (Or.inl ⟨by rfl, ?q54h⟩) hHeld ?q54r
                  case q54h => (intro wq hSw; clear hSw; go_simp; try with_reducible rfl)
                  try simp only [Act.put, List.setIfInBounds_toArray, List.set_cons_zero, List.set_cons_succ]
                  refine wpAnyH_ready (rs := [13]) (by kernel_rfl) (by simp) ?_
                  refine AllReadyH.cons (o := { dst := none, op := Op.store 27 (Operand.tmp 8) (Operand.tmp 53), type := 0, pos := "draw.go:219", after := #[{ on := 12, ground := Ground.data }, { on := 10, ground := Ground.data }, { on := 8, ground := Ground.chain }, { on := 0, ground := Ground.phase }, { on := 1, ground := Ground.phase }, { on := 2, ground := Ground.phase }, { on := 3, ground := Ground.phase }, { on := 4, ground := Ground.phase }, { on := 5, ground := Ground.phase }, { on := 6, ground := Ground.phase }, { on := 7, ground := Ground.phase }, { on := 8, ground := Ground.phase }, { on := 9, ground := Ground.phase }, { on := 10, ground := Ground.phase }, { on := 11, ground := Ground.textOnly Departure.lateStores }, { on := 12, ground := Ground.phase }], guard := none }) rfl (fun K hK => ?_) (AllReadyH.nil)
                  rw [if_pos (by rfl)]
                  refine wp_store_ob 27 (.tmp 8) (.tmp 53) B3 (dvCells (.slice apy Y.pages.length cpy) Y (.slice auy Y.unread.length cuy) (.slice afy Y.faults.length cfy)) (dvCells nilS dvNil nilS nilS) 27 rfl rfl rfl rfl ((HS114.out).get 3 rfl) (info_dv) (rfl) ((oneCell_dv _ _ _ _ _ _ _ _ _ _)) ?_
                  have HS115 : Hid (DrH w C [.ob (w.heap.size) 27 (dvCells nilS dvNil nilS nilS), .ob B1 27 (dvCells (.slice apb d1.pages.length cpb) d1 (.slice aub d1.unread.length cub) (.slice afb d1.faults.length cfb)), .rd R1, .ob B3 27 (dvCells (.slice apy Y.pages.length cpy) Y (.slice auy Y.unread.length cuy) (.slice afy Y.faults.length cfy)), .rd Ry] (w114.setRow B3 (dvCells (.slice apy Y.pages.length cpy) Y (.slice auy Y.unread.length cuy) (.slice afy Y.faults.length cfy)).toArray)) := (HS114.out).row 3 rfl (dvCells (.slice apy Y.pages.length cpy) Y (.slice auy Y.unread.length cuy) (.slice afy Y.faults.length cfy))
                  refine hK.out _ _ (HS115.out.pick [1] rfl) (fun hHeld => ?_)
                  clear hK K
                  generalize (w114.setRow B3 (dvCells (.slice apy Y.pages.length cpy) Y (.slice auy Y.unread.length cuy) (.slice afy Y.faults.length cfy)).toArray) = w115 at *
                  try simp only [Act.put, List.setIfInBounds_toArray, List.set_cons_zero, List.set_cons_succ]
                  refine wpAnyH_take (i := 14) (oi := { dst := some 9, op := Op.assign (Operand.tmp 54), type := 35, pos := "draw.go:219", after := #[{ on := 11, ground := Ground.data }, { on := 13, ground := Ground.chain }, { on := 0, ground := Ground.phase }, { on := 1, ground := Ground.phase }, { on := 2, ground := Ground.phase }, { on := 3, ground := Ground.phase }, { on := 4, ground := Ground.phase }, { on := 5, ground := Ground.phase }, { on := 6, ground := Ground.phase }, { on := 7, ground := Ground.phase }, { on := 8, ground := Ground.phase }, { on := 9, ground := Ground.phase }, { on := 10, ground := Ground.phase }, { on := 11, ground := Ground.phase }, { on := 12, ground := Ground.phase }, { on := 13, ground := Ground.phase }], guard := none }) (v := ?q55v) rfl (by kernel_rfl) (by kernel_rfl) (by kernel_rfl) (fun _ _ _ h => h) (Or.inl ⟨by rfl, ?q55h⟩) hHeld ?q55r
                  case q55h => (intro wq hSw; clear hSw; go_simp; try with_reducible rfl)
                  try simp only [Act.put, List.setIfInBounds_toArray, List.set_cons_zero, List.set_cons_succ]
                  refine wpAnyH_done (by kernel_rfl) ?_ _
                  clear hHeld
                  have HS116 : Hid (DrH w C [.ob (w.heap.size) 27 (dvCells nilS dvNil nilS nilS), .ob B1 27 (dvCells (.slice apb d1.pages.length cpb) d1 (.slice aub d1.unread.length cub) (.slice afb d1.faults.length cfb)), .rd R1, .ob B3 27 (dvCells (.slice apy Y.pages.length cpy) Y (.slice auy Y.unread.length cuy) (.slice afy Y.faults.length cfy)), .rd Ry] w115) := HS115.out
                  clear HS115
                  have HS117 : Hid (DrH w C [.ob (w.heap.size) 27 (dvCells nilS dvNil nilS nilS), .ob B1 27 (dvCells (.slice apb d1.pages.length cpb) d1 (.slice aub d1.unread.length cub) (.slice afb d1.faults.length cfb)), .rd R1, .ob B3 27 (dvCells (.slice apy Y.pages.length cpy) Y (.slice auy Y.unread.length cuy) (.slice afy Y.faults.length cfy)), .rd Ry] w115) := HS116.out.pull [0, 1, 2, 3, 4] rfl (pull_nd HS116.out.nd [0, 1, 2, 3, 4] rfl (by decide))
                  clear HS116
                  have hiw := HIw.out
                  by_cases hc0 : cY = 0
                  · have HOy : Hid (DvOk Y) := Lib.hid (write_keep HOk.out HSz.out HY.out hc0)
                    subst hc0
                    go_upto_region 10 with (fail)
                    have HS118 : Hid (DrH w C [.ob (w.heap.size) 27 (dvCells nilS dvNil nilS nilS), .ob B1 27 (dvCells (.slice apb d1.pages.length cpb) d1 (.slice aub d1.unread.length cub) (.slice afb d1.faults.length cfb)), .rd R1, .ob B3 27 (dvCells (.slice apy Y.pages.length cpy) Y (.slice auy Y.unread.length cuy) (.slice afy Y.faults.length cfy)), .rd Ry] w115) := HS117.out
                    clear HS117
                    go_wp2_with (first | ((with_reducible refine wpList_load_ob 27 (.tmp 8) B3 (dvCells (.slice apy Y.pages.length cpy) Y (.slice auy Y.unread.length cuy) (.slice afy Y.faults.length cfy)) 27 HUD.out ?_ ?_ ?_ ?_ ?_); (exact rfl); (exact (HS118.out).get 3 rfl); (exact rfl); (exact info_dv); simp only [Act.put, List.setIfInBounds_toArray, List.set_cons_zero, List.set_cons_succ]) | ((with_reducible refine wpList_store_ob 27 (.tmp 3) B1 (dvCells (.slice apy Y.pages.length cpy) Y (.slice auy Y.unread.length cuy) (.slice afy Y.faults.length cfy)) (dvCells (.slice apb d1.pages.length cpb) d1 (.slice aub d1.unread.length cub) (.slice afb d1.faults.length cfb)) 27 ?_ ?_ ?_ ?_ ?_ ?_ ?_); (exact rfl); (exact rfl); (exact (HS118.out).get 1 rfl); (exact info_dv); (exact rfl); (exact (oneCell_dv _ _ _ _ _ _ _ _ _ _)); skip))
                    go_roundw
                    case rel => exact ⟨Y, _, _, _, _, i - 1, rfl, by have := HI.out; omega, by have := HI.out; omega, HOy.out, HDvy.out, ((HS118.out).row 1 rfl (dvCells (.slice apy Y.pages.length cpy) Y (.slice auy Y.unread.length cuy) (.slice afy Y.faults.length cfy))).pull [0, 1, 4] rfl (pull_nd ((HS118.out).row 1 rfl (dvCells (.slice apy Y.pages.length cpy) Y (.slice auy Y.unread.length cuy) (.slice afy Y.faults.length cfy))).nd [0, 1, 4] rfl (by decide))⟩
                    case measure => simp [intOf]; have := HI.out; omega
                  · have hcb : (cY == 0) = false := by rw [beq_eq_false_iff_ne]; exact hc0
                    clear hc0
                    go_wp2_with fail
                    go_roundw
                    case rel => exact ⟨d1, _, _, _, _, i - 1, rfl, by have := HI.out; omega, by have := HI.out; omega, HOk.out, HDa.out, (HS117.out).pull [0, 1, 2] rfl (pull_nd (HS117.out).nd [0, 1, 2] rfl (by decide))⟩
                    case measure => simp [intOf]; have := HI.out; omega
              · rw [if_pos (by rfl)]
                refine wp_alloc_ob 27 (dvCells nilS dvNil nilS nilS) rfl alloc_dv ?_
                have HS111 : Hid (DrH w C [.ob (w.heap.size) 27 (dvCells nilS dvNil nilS nilS), .ob B1 27 (dvCells (.slice apb d1.pages.length cpb) d1 (.slice aub d1.unread.length cub) (.slice afb d1.faults.length cfb)), .rd R1, .ob (w100.drew.heap.size) 27 (dvCells nilS dvNil nilS nilS)] (w100.drew.alloc (.cells (dvCells nilS dvNil nilS nilS).toArray 27))) := ((HQ2.out).drew).put 27 (dvCells nilS dvNil nilS nilS)
                refine hK.out _ _ (HS111.out.pick [1] rfl) (fun hHeld => ?_)
                clear hK K
                generalize (w100.drew.alloc (.cells (dvCells nilS dvNil nilS nilS).toArray 27)) = w111 at *
                generalize w100.drew.heap.size = B3 at *
                try simp only [Act.put, List.setIfInBounds_toArray, List.set_cons_zero, List.set_cons_succ]
                refine wpAnyH_ready (rs := [5]) (by kernel_rfl) (by simp) ?_
                refine AllReadyH.cons (o := { dst := some 49, op := Op.call { callee := Callee.value (Operand.func 17), args := #[Operand.tmp 45, Operand.tmp 48], argTypes := #[32, 3] }, type := 3, pos := "draw.go:219", after := #[{ on := 1, ground := Ground.data }, { on := 4, ground := Ground.data }], guard := none }) rfl (fun K hK => ?_) (AllReadyH.nil)
                go_simp
                go_wp2_with (go_at_call 17; refine (next_any C d1.pages.length _ (HS111.out).codes (Int.le_trans HPl.out.2 (by decide))).mono ?_; rintro e w112 ⟨qn, rfl, q0, q1, hb, hc⟩)
                have HS112 : Hid (DrH w C [.ob (w.heap.size) 27 (dvCells nilS dvNil nilS nilS), .ob B1 27 (dvCells (.slice apb d1.pages.length cpb) d1 (.slice aub d1.unread.length cub) (.slice afb d1.faults.length cfb)), .rd R1, .ob B3 27 (dvCells nilS dvNil nilS nilS)] w112) := (HS111.out).draws hb hc
                refine hK.out _ _ (HS112.out.pick [1] rfl) (fun hHeld => ?_)
                clear hK K hb hc
                obtain ⟨q, rfl⟩ := Int.eq_ofNat_of_zero_le q0
                clear q0 q1
                try simp only [Act.put, List.setIfInBounds_toArray, List.set_cons_zero, List.set_cons_succ]
                refine wpAnyH_ready (rs := [7]) (by kernel_rfl) (by simp) ?_
                refine AllReadyH.cons (o := { dst := some 51, op := Op.call { callee := Callee.value (Operand.func 18), args := #[Operand.tmp 50], argTypes := #[32] }, type := 9, pos := "draw.go:219", after := #[{ on := 6, ground := Ground.data }, { on := 5, ground := Ground.chain }], guard := none }) rfl (fun K hK => ?_) (AllReadyH.nil)
                go_simp
                go_wp2_with (go_at_call 18; refine (bytes_any C _ (HS112.out).codes).mono ?_; rintro e w113 ⟨s, rfl, hs2, hb, hc⟩)
                have HS113 : Hid (DrH w C [.ob (w.heap.size) 27 (dvCells nilS dvNil nilS nilS), .ob B1 27 (dvCells (.slice apb d1.pages.length cpb) d1 (.slice aub d1.unread.length cub) (.slice afb d1.faults.length cfb)), .rd R1, .ob B3 27 (dvCells nilS dvNil nilS nilS)] w113) := (HS112.out).draws hb hc
                refine hK.out _ _ (HS113.out.pick [1] rfl) (fun hHeld => ?_)
                clear hK K hb hc
                have HSz := Lib.hid hs2
                have HSm : Hid (s.size ≤ maxLen) := by show _ ≤ _; rw [hs2]; decide
                clear hs2
                try simp only [Act.put, List.setIfInBounds_toArray, List.set_cons_zero, List.set_cons_succ]
                refine wpAnyH_ready (rs := [8]) (by kernel_rfl) (by simp) ?_
                refine AllReadyH.cons (o := { dst := some 52, op := Op.call { callee := Callee.value (Operand.func 21), args := #[Operand.tmp 44, Operand.tmp 49, Operand.tmp 51], argTypes := #[27, 3, 9] }, type := 36, pos := "draw.go:219", after := #[{ on := 0, ground := Ground.data }, { on := 5, ground := Ground.data }, { on := 7, ground := Ground.data }, { on := 7, ground := Ground.chain }], guard := none }) rfl (fun K hK => ?_) (AllReadyH.nil)
                obtain ⟨Y, cY, hY⟩ : ∃ Y cY, writeR d1 q s = (Y, cY) := ⟨_, _, rfl⟩
                have HY := Lib.hid hY
                clear hY
                go_simp
                go_wp2_with (go_at_call 21; refine (dv_as HY.out (rwrite_any q s _ HDa.out ((HS113.out).reads 2 rfl) HOk.out.goodDv HSm.out HOk.out.pg HOk.out.fl)).mono ?_; rintro e w114 ⟨py, uy, fy, Ry, rfl, hrd, hin, hnew, hb⟩)
                obtain ⟨apy, cpy, rfl, _⟩ := hrd.pages
                obtain ⟨auy, cuy, rfl, _⟩ := hrd.unread
                obtain ⟨afy, cfy, rfl, _⟩ := hrd.faults
                have HDvy := Lib.hid hrd
                have HS114 : Hid (DrH w C [.ob (w.heap.size) 27 (dvCells nilS dvNil nilS nilS), .ob B1 27 (dvCells (.slice apb d1.pages.length cpb) d1 (.slice aub d1.unread.length cub) (.slice afb d1.faults.length cfb)), .rd R1, .ob B3 27 (dvCells nilS dvNil nilS nilS), .rd Ry] w114) := (HS113.out).addrd hb Ry hin (fun r hr => (hnew r hr).elim .inl (fun h => .inr ⟨.rd R1, List.mem_of_getElem? (i := 2) rfl, List.mem_map.2 ⟨r, h, rfl⟩⟩))
                refine hK.out _ _ (HS114.out.pick [1] rfl) (fun hHeld => ?_)
                clear hK K hb hin hnew hrd
                try simp only [Act.put, List.setIfInBounds_toArray, List.set_cons_zero, List.set_cons_succ]
                refine wpAnyH_take (i := 9) (oi := { dst := some 43, op := Op.move (Operand.tmp 52), type := 36, pos := "draw.go:219", after := #[{ on := 8, ground := Ground.data }], guard := none }) (v := ?q56v) rfl (by kernel_rfl) (by kernel_rfl) (by kernel_rfl) (fun _ _ _ h => h) (Or.inl ⟨by rfl, ?q56h⟩) hHeld ?q56r
                case q56h => (intro wq hSw; clear hSw; go_simp; try with_reducible rfl)
                try simp only [Act.put, List.setIfInBounds_toArray, List.set_cons_zero, List.set_cons_succ]
                refine wpAnyH_take (i := 10) (oi := { dst := some 53, op := Op.extract (Operand.tmp 43) 0, type := 27, pos := "draw.go:219", after := #[{ on := 9, ground := Ground.data }], guard := none }) (v := ?q57v) rfl (by kernel_rfl) (by kernel_rfl) (by kernel_rfl) (fun _ _ _ h => h) (Or.inl ⟨by rfl, ?q57h⟩) hHeld ?q57r
                case q57h => (intro wq hSw; clear hSw; go_simp; try with_reducible rfl)
                try simp only [Act.put, List.setIfInBounds_toArray, List.set_cons_zero, List.set_cons_succ]
                refine wpAnyH_take (i := 11) (oi := { dst := some 54, op := Op.extract (Operand.tmp 43) 1, type := 35, pos := "draw.go:219", after := #[{ on := 9, ground := Ground.data }, { on := 13, ground := Ground.gcOnly Departure.lateStores }], guard := none }) (v := ?q58v) rfl (by kernel_rfl) (by kernel_rfl) (by kernel_rfl) (fun _ _ _ h => h) (Or.inl ⟨by rfl, ?q58h⟩) hHeld ?q58r
                case q58h => (intro wq hSw; clear hSw; go_simp; try with_reducible rfl)
                try simp only [Act.put, List.setIfInBounds_toArray, List.set_cons_zero, List.set_cons_succ]
                refine wpAnyH_ready (rs := [13]) (by kernel_rfl) (by simp) ?_
                refine AllReadyH.cons (o := { dst := none, op := Op.store 27 (Operand.tmp 8) (Operand.tmp 53), type := 0, pos := "draw.go:219", after := #[{ on := 12, ground := Ground.data }, { on := 10, ground := Ground.data }, { on := 8, ground := Ground.chain }, { on := 0, ground := Ground.phase }, { on := 1, ground := Ground.phase }, { on := 2, ground := Ground.phase }, { on := 3, ground := Ground.phase }, { on := 4, ground := Ground.phase }, { on := 5, ground := Ground.phase }, { on := 6, ground := Ground.phase }, { on := 7, ground := Ground.phase }, { on := 8, ground := Ground.phase }, { on := 9, ground := Ground.phase }, { on := 10, ground := Ground.phase }, { on := 11, ground := Ground.textOnly Departure.lateStores }, { on := 12, ground := Ground.phase }], guard := none }) rfl (fun K hK => ?_) (AllReadyH.nil)
                rw [if_pos (by rfl)]
                refine wp_store_ob 27 (.tmp 8) (.tmp 53) B3 (dvCells (.slice apy Y.pages.length cpy) Y (.slice auy Y.unread.length cuy) (.slice afy Y.faults.length cfy)) (dvCells nilS dvNil nilS nilS) 27 rfl rfl rfl rfl ((HS114.out).get 3 rfl) (info_dv) (rfl) ((oneCell_dv _ _ _ _ _ _ _ _ _ _)) ?_
                have HS115 : Hid (DrH w C [.ob (w.heap.size) 27 (dvCells nilS dvNil nilS nilS), .ob B1 27 (dvCells (.slice apb d1.pages.length cpb) d1 (.slice aub d1.unread.length cub) (.slice afb d1.faults.length cfb)), .rd R1, .ob B3 27 (dvCells (.slice apy Y.pages.length cpy) Y (.slice auy Y.unread.length cuy) (.slice afy Y.faults.length cfy)), .rd Ry] (w114.setRow B3 (dvCells (.slice apy Y.pages.length cpy) Y (.slice auy Y.unread.length cuy) (.slice afy Y.faults.length cfy)).toArray)) := (HS114.out).row 3 rfl (dvCells (.slice apy Y.pages.length cpy) Y (.slice auy Y.unread.length cuy) (.slice afy Y.faults.length cfy))
                refine hK.out _ _ (HS115.out.pick [1] rfl) (fun hHeld => ?_)
                clear hK K
                generalize (w114.setRow B3 (dvCells (.slice apy Y.pages.length cpy) Y (.slice auy Y.unread.length cuy) (.slice afy Y.faults.length cfy)).toArray) = w115 at *
                try simp only [Act.put, List.setIfInBounds_toArray, List.set_cons_zero, List.set_cons_succ]
                refine wpAnyH_take (i := 14) (oi := { dst := some 9, op := Op.assign (Operand.tmp 54), type := 35, pos := "draw.go:219", after := #[{ on := 11, ground := Ground.data }, { on := 13, ground := Ground.chain }, { on := 0, ground := Ground.phase }, { on := 1, ground := Ground.phase }, { on := 2, ground := Ground.phase }, { on := 3, ground := Ground.phase }, { on := 4, ground := Ground.phase }, { on := 5, ground := Ground.phase }, { on := 6, ground := Ground.phase }, { on := 7, ground := Ground.phase }, { on := 8, ground := Ground.phase }, { on := 9, ground := Ground.phase }, { on := 10, ground := Ground.phase }, { on := 11, ground := Ground.phase }, { on := 12, ground := Ground.phase }, { on := 13, ground := Ground.phase }], guard := none }) (v := ?q59v) rfl (by kernel_rfl) (by kernel_rfl) (by kernel_rfl) (fun _ _ _ h => h) (Or.inl ⟨by rfl, ?q59h⟩) hHeld ?q59r
                case q59h => (intro wq hSw; clear hSw; go_simp; try with_reducible rfl)
                try simp only [Act.put, List.setIfInBounds_toArray, List.set_cons_zero, List.set_cons_succ]
                refine wpAnyH_done (by kernel_rfl) ?_ _
                clear hHeld
                have HS116 : Hid (DrH w C [.ob (w.heap.size) 27 (dvCells nilS dvNil nilS nilS), .ob B1 27 (dvCells (.slice apb d1.pages.length cpb) d1 (.slice aub d1.unread.length cub) (.slice afb d1.faults.length cfb)), .rd R1, .ob B3 27 (dvCells (.slice apy Y.pages.length cpy) Y (.slice auy Y.unread.length cuy) (.slice afy Y.faults.length cfy)), .rd Ry] w115) := HS115.out
                clear HS115
                have HS117 : Hid (DrH w C [.ob (w.heap.size) 27 (dvCells nilS dvNil nilS nilS), .ob B1 27 (dvCells (.slice apb d1.pages.length cpb) d1 (.slice aub d1.unread.length cub) (.slice afb d1.faults.length cfb)), .rd R1, .ob B3 27 (dvCells (.slice apy Y.pages.length cpy) Y (.slice auy Y.unread.length cuy) (.slice afy Y.faults.length cfy)), .rd Ry] w115) := HS116.out.pull [0, 1, 2, 3, 4] rfl (pull_nd HS116.out.nd [0, 1, 2, 3, 4] rfl (by decide))
                clear HS116
                have hiw := HIw.out
                by_cases hc0 : cY = 0
                · have HOy : Hid (DvOk Y) := Lib.hid (write_keep HOk.out HSz.out HY.out hc0)
                  subst hc0
                  go_upto_region 10 with (fail)
                  have HS118 : Hid (DrH w C [.ob (w.heap.size) 27 (dvCells nilS dvNil nilS nilS), .ob B1 27 (dvCells (.slice apb d1.pages.length cpb) d1 (.slice aub d1.unread.length cub) (.slice afb d1.faults.length cfb)), .rd R1, .ob B3 27 (dvCells (.slice apy Y.pages.length cpy) Y (.slice auy Y.unread.length cuy) (.slice afy Y.faults.length cfy)), .rd Ry] w115) := HS117.out
                  clear HS117
                  go_wp2_with (first | ((with_reducible refine wpList_load_ob 27 (.tmp 8) B3 (dvCells (.slice apy Y.pages.length cpy) Y (.slice auy Y.unread.length cuy) (.slice afy Y.faults.length cfy)) 27 HUD.out ?_ ?_ ?_ ?_ ?_); (exact rfl); (exact (HS118.out).get 3 rfl); (exact rfl); (exact info_dv); simp only [Act.put, List.setIfInBounds_toArray, List.set_cons_zero, List.set_cons_succ]) | ((with_reducible refine wpList_store_ob 27 (.tmp 3) B1 (dvCells (.slice apy Y.pages.length cpy) Y (.slice auy Y.unread.length cuy) (.slice afy Y.faults.length cfy)) (dvCells (.slice apb d1.pages.length cpb) d1 (.slice aub d1.unread.length cub) (.slice afb d1.faults.length cfb)) 27 ?_ ?_ ?_ ?_ ?_ ?_ ?_); (exact rfl); (exact rfl); (exact (HS118.out).get 1 rfl); (exact info_dv); (exact rfl); (exact (oneCell_dv _ _ _ _ _ _ _ _ _ _)); skip))
                  go_roundw
                  case rel => exact ⟨Y, _, _, _, _, i - 1, rfl, by have := HI.out; omega, by have := HI.out; omega, HOy.out, HDvy.out, ((HS118.out).row 1 rfl (dvCells (.slice apy Y.pages.length cpy) Y (.slice auy Y.unread.length cuy) (.slice afy Y.faults.length cfy))).pull [0, 1, 4] rfl (pull_nd ((HS118.out).row 1 rfl (dvCells (.slice apy Y.pages.length cpy) Y (.slice auy Y.unread.length cuy) (.slice afy Y.faults.length cfy))).nd [0, 1, 4] rfl (by decide))⟩
                  case measure => simp [intOf]; have := HI.out; omega
                · have hcb : (cY == 0) = false := by rw [beq_eq_false_iff_ne]; exact hc0
                  clear hc0
                  go_wp2_with fail
                  go_roundw
                  case rel => exact ⟨d1, _, _, _, _, i - 1, rfl, by have := HI.out; omega, by have := HI.out; omega, HOk.out, HDa.out, (HS117.out).pull [0, 1, 2] rfl (pull_nd (HS117.out).nd [0, 1, 2] rfl (by decide))⟩
                  case measure => simp [intOf]; have := HI.out; omega
      · rw [if_pos (by rfl)]
        refine wp_alloc_ob 27 (dvCells nilS dvNil nilS nilS) rfl alloc_dv ?_
        have HS62 : Hid (DrH w C [.ob (w.heap.size) 27 (dvCells nilS dvNil nilS nilS), .ob B1 27 (dvCells (.slice apa d.pages.length cpa) d (.slice aua d.unread.length cua) (.slice afa d.faults.length cfa)), .rd R, .ob (wr.drew.heap.size) 27 (dvCells nilS dvNil nilS nilS)] (wr.drew.alloc (.cells (dvCells nilS dvNil nilS nilS).toArray 27))) := ((HS61.out).drew).put 27 (dvCells nilS dvNil nilS nilS)
        refine hK.out _ _ (HS62.out.pick [1] rfl) (fun hHeld => ?_)
        clear hK K
        generalize (wr.drew.alloc (.cells (dvCells nilS dvNil nilS nilS).toArray 27)) = w61 at *
        generalize wr.drew.heap.size = B2 at *
        try simp only [Act.put, List.setIfInBounds_toArray, List.set_cons_zero, List.set_cons_succ]
        refine wpAnyH_ready (rs := [7]) (by kernel_rfl) (by simp) ?_
        refine AllReadyH.cons (o := { dst := some 31, op := Op.call { callee := Callee.value (Operand.func 24), args := #[Operand.tmp 25, Operand.tmp 28, Operand.tmp 30], argTypes := #[32, 3, 3] }, type := 29, pos := "draw.go:216", after := #[{ on := 1, ground := Ground.data }, { on := 4, ground := Ground.data }, { on := 6, ground := Ground.data }], guard := none }) rfl (fun K hK => ?_) (AllReadyH.nil)
        go_simp
        go_wp2_with (go_at_call 24; refine (fault_d C d.pages.length d.writes _ (HS62.out).codes HPl.out).mono ?_; rintro e w62 ⟨g, rfl, hgf, hb, hc⟩)
        have HS63 : Hid (DrH w C [.ob (w.heap.size) 27 (dvCells nilS dvNil nilS nilS), .ob B1 27 (dvCells (.slice apa d.pages.length cpa) d (.slice aua d.unread.length cua) (.slice afa d.faults.length cfa)), .rd R, .ob B2 27 (dvCells nilS dvNil nilS nilS)] w62) := (HS62.out).draws hb hc
        refine hK.out _ _ (HS63.out.pick [1] rfl) (fun hHeld => ?_)
        clear hK K hb hc
        have HGf := Lib.hid hgf
        obtain ⟨X, cX, hX⟩ : ∃ X cX, injectR d g = (X, cX) := ⟨_, _, rfl⟩
        have HX := Lib.hid hX
        clear hgf hX
        try simp only [Act.put, List.setIfInBounds_toArray, List.set_cons_zero, List.set_cons_succ]
        refine wpAnyH_ready (rs := [8]) (by kernel_rfl) (by simp) ?_
        refine AllReadyH.cons (o := { dst := some 32, op := Op.call { callee := Callee.value (Operand.func 26), args := #[Operand.tmp 24, Operand.tmp 31], argTypes := #[27, 29] }, type := 36, pos := "draw.go:216", after := #[{ on := 0, ground := Ground.data }, { on := 7, ground := Ground.data }, { on := 7, ground := Ground.chain }], guard := none }) rfl (fun K hK => ?_) (AllReadyH.nil)
        go_simp
        go_wp2_with (go_at_call 26; refine (dv_as HX.out (rinject_any g _ HDa.out ((HS63.out).reads 2 rfl) HOk.out.goodDv HGf.out HOk.out.pg HOk.out.fl)).mono ?_; rintro e w63 ⟨px, ux, fx, Rx, rfl, hrd, hin, hnew, hb⟩)
        obtain ⟨apx, cpx, rfl, _⟩ := hrd.pages
        obtain ⟨aux, cux, rfl, _⟩ := hrd.unread
        obtain ⟨afx, cfx, rfl, _⟩ := hrd.faults
        have HDvx := Lib.hid hrd
        have HS64 : Hid (DrH w C [.ob (w.heap.size) 27 (dvCells nilS dvNil nilS nilS), .ob B1 27 (dvCells (.slice apa d.pages.length cpa) d (.slice aua d.unread.length cua) (.slice afa d.faults.length cfa)), .rd R, .ob B2 27 (dvCells nilS dvNil nilS nilS), .rd Rx] w63) := (HS63.out).addrd hb Rx hin (fun r hr => (hnew r hr).elim .inl (fun h => .inr ⟨.rd R, List.mem_of_getElem? (i := 2) rfl, List.mem_map.2 ⟨r, h, rfl⟩⟩))
        refine hK.out _ _ (HS64.out.pick [1] rfl) (fun hHeld => ?_)
        clear hK K hb hin hnew hrd
        try simp only [Act.put, List.setIfInBounds_toArray, List.set_cons_zero, List.set_cons_succ]
        refine wpAnyH_take (i := 9) (oi := { dst := some 23, op := Op.move (Operand.tmp 32), type := 36, pos := "draw.go:216", after := #[{ on := 8, ground := Ground.data }], guard := none }) (v := ?q60v) rfl (by kernel_rfl) (by kernel_rfl) (by kernel_rfl) (fun _ _ _ h => h) (Or.inl ⟨by rfl, ?q60h⟩) hHeld ?q60r
        case q60h => (intro wq hSw; clear hSw; go_simp; try with_reducible rfl)
        try simp only [Act.put, List.setIfInBounds_toArray, List.set_cons_zero, List.set_cons_succ]
        refine wpAnyH_take (i := 10) (oi := { dst := some 33, op := Op.extract (Operand.tmp 23) 0, type := 27, pos := "draw.go:216", after := #[{ on := 9, ground := Ground.data }], guard := none }) (v := ?q61v) rfl (by kernel_rfl) (by kernel_rfl) (by kernel_rfl) (fun _ _ _ h => h) (Or.inl ⟨by rfl, ?q61h⟩) hHeld ?q61r
        case q61h => (intro wq hSw; clear hSw; go_simp; try with_reducible rfl)
        try simp only [Act.put, List.setIfInBounds_toArray, List.set_cons_zero, List.set_cons_succ]
        refine wpAnyH_take (i := 11) (oi := { dst := some 34, op := Op.extract (Operand.tmp 23) 1, type := 35, pos := "draw.go:216", after := #[{ on := 9, ground := Ground.data }, { on := 13, ground := Ground.gcOnly Departure.lateStores }], guard := none }) (v := ?q62v) rfl (by kernel_rfl) (by kernel_rfl) (by kernel_rfl) (fun _ _ _ h => h) (Or.inl ⟨by rfl, ?q62h⟩) hHeld ?q62r
        case q62h => (intro wq hSw; clear hSw; go_simp; try with_reducible rfl)
        try simp only [Act.put, List.setIfInBounds_toArray, List.set_cons_zero, List.set_cons_succ]
        refine wpAnyH_ready (rs := [13]) (by kernel_rfl) (by simp) ?_
        refine AllReadyH.cons (o := { dst := none, op := Op.store 27 (Operand.tmp 6) (Operand.tmp 33), type := 0, pos := "draw.go:216", after := #[{ on := 12, ground := Ground.data }, { on := 10, ground := Ground.data }, { on := 8, ground := Ground.chain }, { on := 0, ground := Ground.phase }, { on := 1, ground := Ground.phase }, { on := 2, ground := Ground.phase }, { on := 3, ground := Ground.phase }, { on := 4, ground := Ground.phase }, { on := 5, ground := Ground.phase }, { on := 6, ground := Ground.phase }, { on := 7, ground := Ground.phase }, { on := 8, ground := Ground.phase }, { on := 9, ground := Ground.phase }, { on := 10, ground := Ground.phase }, { on := 11, ground := Ground.textOnly Departure.lateStores }, { on := 12, ground := Ground.phase }], guard := none }) rfl (fun K hK => ?_) (AllReadyH.nil)
        rw [if_pos (by rfl)]
        refine wp_store_ob 27 (.tmp 6) (.tmp 33) B2 (dvCells (.slice apx X.pages.length cpx) X (.slice aux X.unread.length cux) (.slice afx X.faults.length cfx)) (dvCells nilS dvNil nilS nilS) 27 rfl rfl rfl rfl ((HS64.out).get 3 rfl) (info_dv) (rfl) ((oneCell_dv _ _ _ _ _ _ _ _ _ _)) ?_
        have HS65 : Hid (DrH w C [.ob (w.heap.size) 27 (dvCells nilS dvNil nilS nilS), .ob B1 27 (dvCells (.slice apa d.pages.length cpa) d (.slice aua d.unread.length cua) (.slice afa d.faults.length cfa)), .rd R, .ob B2 27 (dvCells (.slice apx X.pages.length cpx) X (.slice aux X.unread.length cux) (.slice afx X.faults.length cfx)), .rd Rx] (w63.setRow B2 (dvCells (.slice apx X.pages.length cpx) X (.slice aux X.unread.length cux) (.slice afx X.faults.length cfx)).toArray)) := (HS64.out).row 3 rfl (dvCells (.slice apx X.pages.length cpx) X (.slice aux X.unread.length cux) (.slice afx X.faults.length cfx))
        refine hK.out _ _ (HS65.out.pick [1] rfl) (fun hHeld => ?_)
        clear hK K
        generalize (w63.setRow B2 (dvCells (.slice apx X.pages.length cpx) X (.slice aux X.unread.length cux) (.slice afx X.faults.length cfx)).toArray) = w64 at *
        try simp only [Act.put, List.setIfInBounds_toArray, List.set_cons_zero, List.set_cons_succ]
        refine wpAnyH_take (i := 14) (oi := { dst := some 7, op := Op.assign (Operand.tmp 34), type := 35, pos := "draw.go:216", after := #[{ on := 11, ground := Ground.data }, { on := 13, ground := Ground.chain }, { on := 0, ground := Ground.phase }, { on := 1, ground := Ground.phase }, { on := 2, ground := Ground.phase }, { on := 3, ground := Ground.phase }, { on := 4, ground := Ground.phase }, { on := 5, ground := Ground.phase }, { on := 6, ground := Ground.phase }, { on := 7, ground := Ground.phase }, { on := 8, ground := Ground.phase }, { on := 9, ground := Ground.phase }, { on := 10, ground := Ground.phase }, { on := 11, ground := Ground.phase }, { on := 12, ground := Ground.phase }, { on := 13, ground := Ground.phase }], guard := none }) (v := ?q63v) rfl (by kernel_rfl) (by kernel_rfl) (by kernel_rfl) (fun _ _ _ h => h) (Or.inl ⟨by rfl, ?q63h⟩) hHeld ?q63r
        case q63h => (intro wq hSw; clear hSw; go_simp; try with_reducible rfl)
        try simp only [Act.put, List.setIfInBounds_toArray, List.set_cons_zero, List.set_cons_succ]
        refine wpAnyH_done (by kernel_rfl) ?_ _
        clear hHeld
        have HS66 : Hid (DrH w C [.ob (w.heap.size) 27 (dvCells nilS dvNil nilS nilS), .ob B1 27 (dvCells (.slice apa d.pages.length cpa) d (.slice aua d.unread.length cua) (.slice afa d.faults.length cfa)), .rd R, .ob B2 27 (dvCells (.slice apx X.pages.length cpx) X (.slice aux X.unread.length cux) (.slice afx X.faults.length cfx)), .rd Rx] w64) := HS65.out
        clear HS65
        have HS67 : Hid (DrH w C [.ob (w.heap.size) 27 (dvCells nilS dvNil nilS nilS), .ob B1 27 (dvCells (.slice apa d.pages.length cpa) d (.slice aua d.unread.length cua) (.slice afa d.faults.length cfa)), .rd R, .ob B2 27 (dvCells (.slice apx X.pages.length cpx) X (.slice aux X.unread.length cux) (.slice afx X.faults.length cfx)), .rd Rx] w64) := HS66.out.pull [0, 1, 2, 3, 4] rfl (pull_nd HS66.out.nd [0, 1, 2, 3, 4] rfl (by decide))
        clear HS66
        go_upto_region 6 with (fail)
        go_cut [41] (fun v wx => ∃ b : Bool, v = .bool b ∧ DrH w C [.ob (w.heap.size) 27 (dvCells nilS dvNil nilS nilS), .ob B1 27 (dvCells (.slice apa d.pages.length cpa) d (.slice aua d.unread.length cua) (.slice afa d.faults.length cfa)), .rd R, .ob B2 27 (dvCells (.slice apx X.pages.length cpx) X (.slice aux X.unread.length cux) (.slice afx X.faults.length cfx)), .rd Rx] wx ∧ (b = true → cX = 0))
        case first =>
          by_cases hc0 : cX = 0
          · have hcb : (cX == 0) = true := by rw [hc0]; rfl
            have HC0 := Lib.hid hc0
            clear hc0
            go_wp2_with fail
            refine (next_any C 2 _ (HS67.out).codes (by omega)).mono ?_
            rintro e w90 ⟨b, rfl, b0, b1, hb, hc⟩
            have HS90 : Hid (DrH w C [.ob (w.heap.size) 27 (dvCells nilS dvNil nilS nilS), .ob B1 27 (dvCells (.slice apa d.pages.length cpa) d (.slice aua d.unread.length cua) (.slice afa d.faults.length cfa)), .rd R, .ob B2 27 (dvCells (.slice apx X.pages.length cpx) X (.slice aux X.unread.length cux) (.slice afx X.faults.length cfx)), .rd Rx] w90) := (HS67.out).draws hb hc
            clear hb hc b0 b1
            go_wp2_with fail
            go_meet
            exact ⟨_, rfl, HS90.out, fun _ => HC0.out⟩
          · have hcb : (cX == 0) = false := by rw [beq_eq_false_iff_ne]; exact hc0
            clear hc0
            go_wp2_with fail
            go_meet
            exact ⟨false, rfl, HS67.out, fun h => absurd h (by decide)⟩
        case rest =>
          obtain ⟨b, rfl, hs, hbc⟩ := hcut
          clear HS67
          have HS91 := Lib.hid hs
          have HBc := Lib.hid hbc
          clear hs hbc
          generalize wc = w91 at *
          go_upto_if 41 with (fail)
          go_cut [] (fun wx => ∃ (d : Dv) (p u f : Value) (R : List Rng), DvOk d ∧ DvRd p u f d R ∧ DrH w C [.ob w.heap.size 27 (dvCells nilS dvNil nilS nilS), .ob B1 27 (dvCells p d u f), .rd R] wx)
          case first =>
            cases b
            · go_wp2_with fail
              go_meet
              exact ⟨d, _, _, _, _, HOk.out, HDa.out, (HS91.out).pull [0, 1, 2] rfl (pull_nd (HS91.out).nd [0, 1, 2] rfl (by decide))⟩
            · have HOx : Hid (DvOk X) := Lib.hid (inject_keep HOk.out HGf.out HX.out (HBc.out rfl))
              go_upto_region 7 with (fail)
              have HS93 : Hid (DrH w C [.ob (w.heap.size) 27 (dvCells nilS dvNil nilS nilS), .ob B1 27 (dvCells (.slice apa d.pages.length cpa) d (.slice aua d.unread.length cua) (.slice afa d.faults.length cfa)), .rd R, .ob B2 27 (dvCells (.slice apx X.pages.length cpx) X (.slice aux X.unread.length cux) (.slice afx X.faults.length cfx)), .rd Rx] w91) := HS91.out
              clear HS91
              go_wp2_with (first | ((with_reducible refine wpList_load_ob 27 (.tmp 6) B2 (dvCells (.slice apx X.pages.length cpx) X (.slice aux X.unread.length cux) (.slice afx X.faults.length cfx)) 27 HUD.out ?_ ?_ ?_ ?_ ?_); (exact rfl); (exact (HS93.out).get 3 rfl); (exact rfl); (exact info_dv); simp only [Act.put, List.setIfInBounds_toArray, List.set_cons_zero, List.set_cons_succ]) | ((with_reducible refine wpList_store_ob 27 (.tmp 3) B1 (dvCells (.slice apx X.pages.length cpx) X (.slice aux X.unread.length cux) (.slice afx X.faults.length cfx)) (dvCells (.slice apa d.pages.length cpa) d (.slice aua d.unread.length cua) (.slice afa d.faults.length cfa)) 27 ?_ ?_ ?_ ?_ ?_ ?_ ?_); (exact rfl); (exact rfl); (exact (HS93.out).get 1 rfl); (exact info_dv); (exact rfl); (exact (oneCell_dv _ _ _ _ _ _ _ _ _ _)); skip))
              have HS94 : Hid (DrH w C [.ob (w.heap.size) 27 (dvCells nilS dvNil nilS nilS), .ob B1 27 (dvCells (.slice apx X.pages.length cpx) X (.slice aux X.unread.length cux) (.slice afx X.faults.length cfx)), .rd R, .ob B2 27 (dvCells (.slice apx X.pages.length cpx) X (.slice aux X.unread.length cux) (.slice afx X.faults.length cfx)), .rd Rx] (w91.setRow B1 (dvCells (.slice apx X.pages.length cpx) X (.slice aux X.unread.length cux) (.slice afx X.faults.length cfx)).toArray)) := (HS93.out).row 1 rfl (dvCells (.slice apx X.pages.length cpx) X (.slice aux X.unread.length cux) (.slice afx X.faults.length cfx))
              clear HS93
              generalize (w91.setRow B1 (dvCells (.slice apx X.pages.length cpx) X (.slice aux X.unread.length cux) (.slice afx X.faults.length cfx)).toArray) = w93 at *
              go_meet
              exact ⟨X, _, _, _, _, HOx.out, HDvx.out, (HS94.out).pull [0, 1, 4] rfl (pull_nd (HS94.out).nd [0, 1, 4] rfl (by decide))⟩
          case rest =>
            obtain ⟨d1, p, u, f, R1, hok, hda, hs⟩ := hcut
            clear HOk HDa HDvx HGf HX HPl HBc HS91
            obtain ⟨apb, cpb, rfl, _⟩ := hda.pages
            obtain ⟨aub, cub, rfl, _⟩ := hda.unread
            obtain ⟨afb, cfb, rfl, _⟩ := hda.faults
            have HOk := Lib.hid hok
            have HDa := Lib.hid hda
            have HQ2 := Lib.hid hs
            have HPl : Hid (1 ≤ (d1.pages.length : Int) ∧ (d1.pages.length : Int) ≤ 256) := Lib.hid (by have := hok.some; omega)
            clear hda hs hok
            generalize wc = w100 at *
            go_upto_region 8 with (fail)
            refine wp_region_held_drew (S := fun w' => Hold w.heap.size [.ob B1 27 (dvCells (.slice apb d1.pages.length cpb) d1 (.slice aub d1.unread.length cub) (.slice afb d1.faults.length cfb))] w') (by kernel_rfl) ((HQ2.out).drew.pick [1] rfl) (fun hHeld => ?_)
            refine wpAnyH_take (i := 0) (oi := { dst := some 44, op := Op.load 27 (Operand.tmp 3), type := 27, pos := "draw.go:219", after := #[], guard := none }) rfl (by kernel_rfl) (by kernel_rfl) (by kernel_rfl) (fun _ _ _ h => h) (yieldsIf_load_mid (by rfl) 27 (.tmp 3) rfl B1 0 rfl (dvCells (.slice apb d1.pages.length cpb) d1 (.slice aub d1.unread.length cub) (.slice afb d1.faults.length cfb)) _ (fun _ h => h.whole 0 rfl) HUD.out rfl (info_dv)) hHeld ?_
            try simp only [Act.put, List.setIfInBounds_toArray, List.set_cons_zero, List.set_cons_succ]
            refine wpAnyH_take (i := 1) (oi := { dst := some 45, op := Op.move (Operand.tmp 0), type := 32, pos := "draw.go:219", after := #[], guard := none }) (v := ?q65v) rfl (by kernel_rfl) (by kernel_rfl) (by kernel_rfl) (fun _ _ _ h => h) (Or.inl ⟨by rfl, ?q65h⟩) hHeld ?q65r
            case q65h => (intro wq hSw; clear hSw; go_simp; try with_reducible rfl)
            try simp only [Act.put, List.setIfInBounds_toArray, List.set_cons_zero, List.set_cons_succ]
            refine wpAnyH_take (i := 2) (oi := { dst := some 46, op := Op.fieldAddr 27 (Operand.tmp 3) 0, type := 0, pos := "draw.go:219", after := #[], guard := none }) (v := ?q66v) rfl (by kernel_rfl) (by kernel_rfl) (by kernel_rfl) (fun _ _ _ h => h) (Or.inl ⟨by rfl, ?q66h⟩) hHeld ?q66r
            case q66h => (intro wq hSw; clear hSw; go_simp; try with_reducible rfl)
            try simp only [Act.put, List.setIfInBounds_toArray, List.set_cons_zero, List.set_cons_succ]
            refine wpAnyH_take (i := 3) (oi := { dst := some 47, op := Op.load 23 (Operand.tmp 46), type := 23, pos := "draw.go:219", after := #[{ on := 2, ground := Ground.data }], guard := none }) (v := ?q67v) rfl (by kernel_rfl) (by kernel_rfl) (by kernel_rfl) (fun _ _ _ h => h) (Or.inl ⟨by rfl, ?q67h⟩) hHeld ?q67r
            case q67h => (intro wq hSw; have q0 := hSw.at 0 rfl 0 rfl; clear hSw; go_simp; try with_reducible rfl)
            try simp only [Act.put, List.setIfInBounds_toArray, List.set_cons_zero, List.set_cons_succ]
            refine wpAnyH_take (i := 4) (oi := { dst := some 48, op := Op.call { callee := Callee.builtin Builtin.len, args := #[Operand.tmp 47], argTypes := #[23] }, type := 3, pos := "draw.go:219", after := #[{ on := 3, ground := Ground.data }], guard := none }) (v := ?q68v) rfl (by kernel_rfl) (by kernel_rfl) (by kernel_rfl) (fun _ _ _ h => h) (Or.inl ⟨by rfl, ?q68h⟩) hHeld ?q68r
            case q68h => (intro wq hSw; clear hSw; go_simp; try with_reducible rfl)
            try simp only [Act.put, List.setIfInBounds_toArray, List.set_cons_zero, List.set_cons_succ]
            refine wpAnyH_take (i := 6) (oi := { dst := some 50, op := Op.move (Operand.tmp 0), type := 32, pos := "draw.go:219", after := #[], guard := none }) (v := ?q69v) rfl (by kernel_rfl) (by kernel_rfl) (by kernel_rfl) (fun _ _ _ h => h) (Or.inl ⟨by rfl, ?q69h⟩) hHeld ?q69r
            case q69h => (intro wq hSw; clear hSw; go_simp; try with_reducible rfl)
            try simp only [Act.put, List.setIfInBounds_toArray, List.set_cons_zero, List.set_cons_succ]
            refine wpAnyH_ready (rs := [5, 12]) (by kernel_rfl) (by simp) ?_
            refine AllReadyH.cons (o := { dst := some 49, op := Op.call { callee := Callee.value (Operand.func 17), args := #[Operand.tmp 45, Operand.tmp 48], argTypes := #[32, 3] }, type := 3, pos := "draw.go:219", after := #[{ on := 1, ground := Ground.data }, { on := 4, ground := Ground.data }], guard := none }) rfl (fun K hK => ?_) (AllReadyH.cons (o := { dst := some 8, op := Op.alloc 27, type := 0, pos := "draw.go:219", after := #[], guard := none }) rfl (fun K hK => ?_) (AllReadyH.nil))
            · go_simp
              go_wp2_with (go_at_call 17; refine (next_any C d1.pages.length _ ((HQ2.out).drew).codes (Int.le_trans HPl.out.2 (by decide))).mono ?_; rintro e w111 ⟨qn, rfl, q0, q1, hb, hc⟩)
              have HS111 : Hid (DrH w C [.ob (w.heap.size) 27 (dvCells nilS dvNil nilS nilS), .ob B1 27 (dvCells (.slice apb d1.pages.length cpb) d1 (.slice aub d1.unread.length cub) (.slice afb d1.faults.length cfb)), .rd R1] w111) := ((HQ2.out).drew).draws hb hc
              refine hK.out _ _ (HS111.out.pick [1] rfl) (fun hHeld => ?_)
              clear hK K hb hc
              obtain ⟨q, rfl⟩ := Int.eq_ofNat_of_zero_le q0
              clear q0 q1
              try simp only [Act.put, List.setIfInBounds_toArray, List.set_cons_zero, List.set_cons_succ]
              refine wpAnyH_ready (rs := [7, 12]) (by kernel_rfl) (by simp) ?_
              refine AllReadyH.cons (o := { dst := some 51, op := Op.call { callee := Callee.value (Operand.func 18), args := #[Operand.tmp 50], argTypes := #[32] }, type := 9, pos := "draw.go:219", after := #[{ on := 6, ground := Ground.data }, { on := 5, ground := Ground.chain }], guard := none }) rfl (fun K hK => ?_) (AllReadyH.cons (o := { dst := some 8, op := Op.alloc 27, type := 0, pos := "draw.go:219", after := #[], guard := none }) rfl (fun K hK => ?_) (AllReadyH.nil))
              · go_simp
                go_wp2_with (go_at_call 18; refine (bytes_any C _ (HS111.out).codes).mono ?_; rintro e w112 ⟨s, rfl, hs2, hb, hc⟩)
                have HS112 : Hid (DrH w C [.ob (w.heap.size) 27 (dvCells nilS dvNil nilS nilS), .ob B1 27 (dvCells (.slice apb d1.pages.length cpb) d1 (.slice aub d1.unread.length cub) (.slice afb d1.faults.length cfb)), .rd R1] w112) := (HS111.out).draws hb hc
                refine hK.out _ _ (HS112.out.pick [1] rfl) (fun hHeld => ?_)
                clear hK K hb hc
                have HSz := Lib.hid hs2
                have HSm : Hid (s.size ≤ maxLen) := by show _ ≤ _; rw [hs2]; decide
                clear hs2
                try simp only [Act.put, List.setIfInBounds_toArray, List.set_cons_zero, List.set_cons_succ]
                refine wpAnyH_ready (rs := [8, 12]) (by kernel_rfl) (by simp) ?_
                refine AllReadyH.cons (o := { dst := some 52, op := Op.call { callee := Callee.value (Operand.func 21), args := #[Operand.tmp 44, Operand.tmp 49, Operand.tmp 51], argTypes := #[27, 3, 9] }, type := 36, pos := "draw.go:219", after := #[{ on := 0, ground := Ground.data }, { on := 5, ground := Ground.data }, { on := 7, ground := Ground.data }, { on := 7, ground := Ground.chain }], guard := none }) rfl (fun K hK => ?_) (AllReadyH.cons (o := { dst := some 8, op := Op.alloc 27, type := 0, pos := "draw.go:219", after := #[], guard := none }) rfl (fun K hK => ?_) (AllReadyH.nil))
                · obtain ⟨Y, cY, hY⟩ : ∃ Y cY, writeR d1 q s = (Y, cY) := ⟨_, _, rfl⟩
                  have HY := Lib.hid hY
                  clear hY
                  go_simp
                  go_wp2_with (go_at_call 21; refine (dv_as HY.out (rwrite_any q s _ HDa.out ((HS112.out).reads 2 rfl) HOk.out.goodDv HSm.out HOk.out.pg HOk.out.fl)).mono ?_; rintro e w113 ⟨py, uy, fy, Ry, rfl, hrd, hin, hnew, hb⟩)
                  obtain ⟨apy, cpy, rfl, _⟩ := hrd.pages
                  obtain ⟨auy, cuy, rfl, _⟩ := hrd.unread
                  obtain ⟨afy, cfy, rfl, _⟩ := hrd.faults
                  have HDvy := Lib.hid hrd
                  have HS113 : Hid (DrH w C [.ob (w.heap.size) 27 (dvCells nilS dvNil nilS nilS), .ob B1 27 (dvCells (.slice apb d1.pages.length cpb) d1 (.slice aub d1.unread.length cub) (.slice afb d1.faults.length cfb)), .rd R1, .rd Ry] w113) := (HS112.out).addrd hb Ry hin (fun r hr => (hnew r hr).elim .inl (fun h => .inr ⟨.rd R1, List.mem_of_getElem? (i := 2) rfl, List.mem_map.2 ⟨r, h, rfl⟩⟩))
                  refine hK.out _ _ (HS113.out.pick [1] rfl) (fun hHeld => ?_)
                  clear hK K hb hin hnew hrd
                  try simp only [Act.put, List.setIfInBounds_toArray, List.set_cons_zero, List.set_cons_succ]
                  refine wpAnyH_take (i := 9) (oi := { dst := some 43, op := Op.move (Operand.tmp 52), type := 36, pos := "draw.go:219", after := #[{ on := 8, ground := Ground.data }], guard := none }) (v := ?q70v) rfl (by kernel_rfl) (by kernel_rfl) (by kernel_rfl) (fun _ _ _ h => h) (Or.inl ⟨by rfl, ?q70h⟩) hHeld ?q70r
                  case q70h => (intro wq hSw; clear hSw; go_simp; try with_reducible rfl)
                  try simp only [Act.put, List.setIfInBounds_toArray, List.set_cons_zero, List.set_cons_succ]
                  refine wpAnyH_take (i := 10) (oi := { dst := some 53, op := Op.extract (Operand.tmp 43) 0, type := 27, pos := "draw.go:219", after := #[{ on := 9, ground := Ground.data }], guard := none }) (v := ?q71v) rfl (by kernel_rfl) (by kernel_rfl) (by kernel_rfl) (fun _ _ _ h => h) (Or.inl ⟨by rfl, ?q71h⟩) hHeld ?q71r
                  case q71h => (intro wq hSw; clear hSw; go_simp; try with_reducible rfl)
                  try simp only [Act.put, List.setIfInBounds_toArray, List.set_cons_zero, List.set_cons_succ]
                  refine wpAnyH_take (i := 11) (oi := { dst := some 54, op := Op.extract (Operand.tmp 43) 1, type := 35, pos := "draw.go:219", after := #[{ on := 9, ground := Ground.data }, { on := 13, ground := Ground.gcOnly Departure.lateStores }], guard := none }) (v := ?q72v) rfl (by kernel_rfl) (by kernel_rfl) (by kernel_rfl) (fun _ _ _ h => h) (Or.inl ⟨by rfl, ?q72h⟩) hHeld ?q72r
                  case q72h => (intro wq hSw; clear hSw; go_simp; try with_reducible rfl)
                  try simp only [Act.put, List.setIfInBounds_toArray, List.set_cons_zero, List.set_cons_succ]
                  refine wpAnyH_ready (rs := [12]) (by kernel_rfl) (by simp) ?_
                  refine AllReadyH.cons (o := { dst := some 8, op := Op.alloc 27, type := 0, pos := "draw.go:219", after := #[], guard := none }) rfl (fun K hK => ?_) (AllReadyH.nil)
                  rw [if_pos (by rfl)]
                  refine wp_alloc_ob 27 (dvCells nilS dvNil nilS nilS) rfl alloc_dv ?_
                  have HS114 : Hid (DrH w C [.ob (w.heap.size) 27 (dvCells nilS dvNil nilS nilS), .ob B1 27 (dvCells (.slice apb d1.pages.length cpb) d1 (.slice aub d1.unread.length cub) (.slice afb d1.faults.length cfb)), .rd R1, .rd Ry, .ob (w113.heap.size) 27 (dvCells nilS dvNil nilS nilS)] (w113.alloc (.cells (dvCells nilS dvNil nilS nilS).toArray 27))) := (HS113.out).put 27 (dvCells nilS dvNil nilS nilS)
                  refine hK.out _ _ (HS114.out.pick [1] rfl) (fun hHeld => ?_)
                  clear hK K
                  generalize (w113.alloc (.cells (dvCells nilS dvNil nilS nilS).toArray 27)) = w114 at *
                  generalize w113.heap.size = B3 at *
                  try simp only [Act.put, List.setIfInBounds_toArray, List.set_cons_zero, List.set_cons_succ]
                  refine wpAnyH_ready (rs := [13]) (by kernel_rfl) (by simp) ?_
                  refine AllReadyH.cons (o := { dst := none, op := Op.store 27 (Operand.tmp 8) (Operand.tmp 53), type := 0, pos := "draw.go:219", after := #[{ on := 12, ground := Ground.data }, { on := 10, ground := Ground.data }, { on := 8, ground := Ground.chain }, { on := 0, ground := Ground.phase }, { on := 1, ground := Ground.phase }, { on := 2, ground := Ground.phase }, { on := 3, ground := Ground.phase }, { on := 4, ground := Ground.phase }, { on := 5, ground := Ground.phase }, { on := 6, ground := Ground.phase }, { on := 7, ground := Ground.phase }, { on := 8, ground := Ground.phase }, { on := 9, ground := Ground.phase }, { on := 10, ground := Ground.phase }, { on := 11, ground := Ground.textOnly Departure.lateStores }, { on := 12, ground := Ground.phase }], guard := none }) rfl (fun K hK => ?_) (AllReadyH.nil)
                  rw [if_pos (by rfl)]
                  refine wp_store_ob 27 (.tmp 8) (.tmp 53) B3 (dvCells (.slice apy Y.pages.length cpy) Y (.slice auy Y.unread.length cuy) (.slice afy Y.faults.length cfy)) (dvCells nilS dvNil nilS nilS) 27 rfl rfl rfl rfl ((HS114.out).get 4 rfl) (info_dv) (rfl) ((oneCell_dv _ _ _ _ _ _ _ _ _ _)) ?_
                  have HS115 : Hid (DrH w C [.ob (w.heap.size) 27 (dvCells nilS dvNil nilS nilS), .ob B1 27 (dvCells (.slice apb d1.pages.length cpb) d1 (.slice aub d1.unread.length cub) (.slice afb d1.faults.length cfb)), .rd R1, .rd Ry, .ob B3 27 (dvCells (.slice apy Y.pages.length cpy) Y (.slice auy Y.unread.length cuy) (.slice afy Y.faults.length cfy))] (w114.setRow B3 (dvCells (.slice apy Y.pages.length cpy) Y (.slice auy Y.unread.length cuy) (.slice afy Y.faults.length cfy)).toArray)) := (HS114.out).row 4 rfl (dvCells (.slice apy Y.pages.length cpy) Y (.slice auy Y.unread.length cuy) (.slice afy Y.faults.length cfy))
                  refine hK.out _ _ (HS115.out.pick [1] rfl) (fun hHeld => ?_)
                  clear hK K
                  generalize (w114.setRow B3 (dvCells (.slice apy Y.pages.length cpy) Y (.slice auy Y.unread.length cuy) (.slice afy Y.faults.length cfy)).toArray) = w115 at *
                  try simp only [Act.put, List.setIfInBounds_toArray, List.set_cons_zero, List.set_cons_succ]
                  refine wpAnyH_take (i := 14) (oi := { dst := some 9, op := Op.assign (Operand.tmp 54), type := 35, pos := "draw.go:219", after := #[{ on := 11, ground := Ground.data }, { on := 13, ground := Ground.chain }, { on := 0, ground := Ground.phase }, { on := 1, ground := Ground.phase }, { on := 2, ground := Ground.phase }, { on := 3, ground := Ground.phase }, { on := 4, ground := Ground.phase }, { on := 5, ground := Ground.phase }, { on := 6, ground := Ground.phase }, { on := 7, ground := Ground.phase }, { on := 8, ground := Ground.phase }, { on := 9, ground := Ground.phase }, { on := 10, ground := Ground.phase }, { on := 11, ground := Ground.phase }, { on := 12, ground := Ground.phase }, { on := 13, ground := Ground.phase }], guard := none }) (v := ?q73v) rfl (by kernel_rfl) (by kernel_rfl) (by kernel_rfl) (fun _ _ _ h => h) (Or.inl ⟨by rfl, ?q73h⟩) hHeld ?q73r
                  case q73h => (intro wq hSw; clear hSw; go_simp; try with_reducible rfl)
                  try simp only [Act.put, List.setIfInBounds_toArray, List.set_cons_zero, List.set_cons_succ]
                  refine wpAnyH_done (by kernel_rfl) ?_ _
                  clear hHeld
                  have HS116 : Hid (DrH w C [.ob (w.heap.size) 27 (dvCells nilS dvNil nilS nilS), .ob B1 27 (dvCells (.slice apb d1.pages.length cpb) d1 (.slice aub d1.unread.length cub) (.slice afb d1.faults.length cfb)), .rd R1, .rd Ry, .ob B3 27 (dvCells (.slice apy Y.pages.length cpy) Y (.slice auy Y.unread.length cuy) (.slice afy Y.faults.length cfy))] w115) := HS115.out
                  clear HS115
                  have HS117 : Hid (DrH w C [.ob (w.heap.size) 27 (dvCells nilS dvNil nilS nilS), .ob B1 27 (dvCells (.slice apb d1.pages.length cpb) d1 (.slice aub d1.unread.length cub) (.slice afb d1.faults.length cfb)), .rd R1, .ob B3 27 (dvCells (.slice apy Y.pages.length cpy) Y (.slice auy Y.unread.length cuy) (.slice afy Y.faults.length cfy)), .rd Ry] w115) := HS116.out.pull [0, 1, 2, 4, 3] rfl (pull_nd HS116.out.nd [0, 1, 2, 4, 3] rfl (by decide))
                  clear HS116
                  have hiw := HIw.out
                  by_cases hc0 : cY = 0
                  · have HOy : Hid (DvOk Y) := Lib.hid (write_keep HOk.out HSz.out HY.out hc0)
                    subst hc0
                    go_upto_region 10 with (fail)
                    have HS118 : Hid (DrH w C [.ob (w.heap.size) 27 (dvCells nilS dvNil nilS nilS), .ob B1 27 (dvCells (.slice apb d1.pages.length cpb) d1 (.slice aub d1.unread.length cub) (.slice afb d1.faults.length cfb)), .rd R1, .ob B3 27 (dvCells (.slice apy Y.pages.length cpy) Y (.slice auy Y.unread.length cuy) (.slice afy Y.faults.length cfy)), .rd Ry] w115) := HS117.out
                    clear HS117
                    go_wp2_with (first | ((with_reducible refine wpList_load_ob 27 (.tmp 8) B3 (dvCells (.slice apy Y.pages.length cpy) Y (.slice auy Y.unread.length cuy) (.slice afy Y.faults.length cfy)) 27 HUD.out ?_ ?_ ?_ ?_ ?_); (exact rfl); (exact (HS118.out).get 3 rfl); (exact rfl); (exact info_dv); simp only [Act.put, List.setIfInBounds_toArray, List.set_cons_zero, List.set_cons_succ]) | ((with_reducible refine wpList_store_ob 27 (.tmp 3) B1 (dvCells (.slice apy Y.pages.length cpy) Y (.slice auy Y.unread.length cuy) (.slice afy Y.faults.length cfy)) (dvCells (.slice apb d1.pages.length cpb) d1 (.slice aub d1.unread.length cub) (.slice afb d1.faults.length cfb)) 27 ?_ ?_ ?_ ?_ ?_ ?_ ?_); (exact rfl); (exact rfl); (exact (HS118.out).get 1 rfl); (exact info_dv); (exact rfl); (exact (oneCell_dv _ _ _ _ _ _ _ _ _ _)); skip))
                    go_roundw
                    case rel => exact ⟨Y, _, _, _, _, i - 1, rfl, by have := HI.out; omega, by have := HI.out; omega, HOy.out, HDvy.out, ((HS118.out).row 1 rfl (dvCells (.slice apy Y.pages.length cpy) Y (.slice auy Y.unread.length cuy) (.slice afy Y.faults.length cfy))).pull [0, 1, 4] rfl (pull_nd ((HS118.out).row 1 rfl (dvCells (.slice apy Y.pages.length cpy) Y (.slice auy Y.unread.length cuy) (.slice afy Y.faults.length cfy))).nd [0, 1, 4] rfl (by decide))⟩
                    case measure => simp [intOf]; have := HI.out; omega
                  · have hcb : (cY == 0) = false := by rw [beq_eq_false_iff_ne]; exact hc0
                    clear hc0
                    go_wp2_with fail
                    go_roundw
                    case rel => exact ⟨d1, _, _, _, _, i - 1, rfl, by have := HI.out; omega, by have := HI.out; omega, HOk.out, HDa.out, (HS117.out).pull [0, 1, 2] rfl (pull_nd (HS117.out).nd [0, 1, 2] rfl (by decide))⟩
                    case measure => simp [intOf]; have := HI.out; omega
                · rw [if_pos (by rfl)]
                  refine wp_alloc_ob 27 (dvCells nilS dvNil nilS nilS) rfl alloc_dv ?_
                  have HS113 : Hid (DrH w C [.ob (w.heap.size) 27 (dvCells nilS dvNil nilS nilS), .ob B1 27 (dvCells (.slice apb d1.pages.length cpb) d1 (.slice aub d1.unread.length cub) (.slice afb d1.faults.length cfb)), .rd R1, .ob (w112.heap.size) 27 (dvCells nilS dvNil nilS nilS)] (w112.alloc (.cells (dvCells nilS dvNil nilS nilS).toArray 27))) := (HS112.out).put 27 (dvCells nilS dvNil nilS nilS)
                  refine hK.out _ _ (HS113.out.pick [1] rfl) (fun hHeld => ?_)
                  clear hK K
                  generalize (w112.alloc (.cells (dvCells nilS dvNil nilS nilS).toArray 27)) = w113 at *
                  generalize w112.heap.size = B3 at *
                  try simp only [Act.put, List.setIfInBounds_toArray, List.set_cons_zero, List.set_cons_succ]
                  refine wpAnyH_ready (rs := [8]) (by kernel_rfl) (by simp) ?_
                  refine AllReadyH.cons (o := { dst := some 52, op := Op.call { callee := Callee.value (Operand.func 21), args := #[Operand.tmp 44, Operand.tmp 49, Operand.tmp 51], argTypes := #[27, 3, 9] }, type := 36, pos := "draw.go:219", after := #[{ on := 0, ground := Ground.data }, { on := 5, ground := Ground.data }, { on := 7, ground := Ground.data }, { on := 7, ground := Ground.chain }], guard := none }) rfl (fun K hK => ?_) (AllReadyH.nil)
                  obtain ⟨Y, cY, hY⟩ : ∃ Y cY, writeR d1 q s = (Y, cY) := ⟨_, _, rfl⟩
                  have HY := Lib.hid hY
                  clear hY
                  go_simp
                  go_wp2_with (go_at_call 21; refine (dv_as HY.out (rwrite_any q s _ HDa.out ((HS113.out).reads 2 rfl) HOk.out.goodDv HSm.out HOk.out.pg HOk.out.fl)).mono ?_; rintro e w114 ⟨py, uy, fy, Ry, rfl, hrd, hin, hnew, hb⟩)
                  obtain ⟨apy, cpy, rfl, _⟩ := hrd.pages
                  obtain ⟨auy, cuy, rfl, _⟩ := hrd.unread
                  obtain ⟨afy, cfy, rfl, _⟩ := hrd.faults
                  have HDvy := Lib.hid hrd
                  have HS114 : Hid (DrH w C [.ob (w.heap.size) 27 (dvCells nilS dvNil nilS nilS), .ob B1 27 (dvCells (.slice apb d1.pages.length cpb) d1 (.slice aub d1.unread.length cub) (.slice afb d1.faults.length cfb)), .rd R1, .ob B3 27 (dvCells nilS dvNil nilS nilS), .rd Ry] w114) := (HS113.out).addrd hb Ry hin (fun r hr => (hnew r hr).elim .inl (fun h => .inr ⟨.rd R1, List.mem_of_getElem? (i := 2) rfl, List.mem_map.2 ⟨r, h, rfl⟩⟩))
                  refine hK.out _ _ (HS114.out.pick [1] rfl) (fun hHeld => ?_)
                  clear hK K hb hin hnew hrd
                  try simp only [Act.put, List.setIfInBounds_toArray, List.set_cons_zero, List.set_cons_succ]
                  refine wpAnyH_take (i := 9) (oi := { dst := some 43, op := Op.move (Operand.tmp 52), type := 36, pos := "draw.go:219", after := #[{ on := 8, ground := Ground.data }], guard := none }) (v := ?q74v) rfl (by kernel_rfl) (by kernel_rfl) (by kernel_rfl) (fun _ _ _ h => h) (Or.inl ⟨by rfl, ?q74h⟩) hHeld ?q74r
                  case q74h => (intro wq hSw; clear hSw; go_simp; try with_reducible rfl)
                  try simp only [Act.put, List.setIfInBounds_toArray, List.set_cons_zero, List.set_cons_succ]
                  refine wpAnyH_take (i := 10) (oi := { dst := some 53, op := Op.extract (Operand.tmp 43) 0, type := 27, pos := "draw.go:219", after := #[{ on := 9, ground := Ground.data }], guard := none }) (v := ?q75v) rfl (by kernel_rfl) (by kernel_rfl) (by kernel_rfl) (fun _ _ _ h => h) (Or.inl ⟨by rfl, ?q75h⟩) hHeld ?q75r
                  case q75h => (intro wq hSw; clear hSw; go_simp; try with_reducible rfl)
                  try simp only [Act.put, List.setIfInBounds_toArray, List.set_cons_zero, List.set_cons_succ]
                  refine wpAnyH_take (i := 11) (oi := { dst := some 54, op := Op.extract (Operand.tmp 43) 1, type := 35, pos := "draw.go:219", after := #[{ on := 9, ground := Ground.data }, { on := 13, ground := Ground.gcOnly Departure.lateStores }], guard := none }) (v := ?q76v) rfl (by kernel_rfl) (by kernel_rfl) (by kernel_rfl) (fun _ _ _ h => h) (Or.inl ⟨by rfl, ?q76h⟩) hHeld ?q76r
                  case q76h => (intro wq hSw; clear hSw; go_simp; try with_reducible rfl)
                  try simp only [Act.put, List.setIfInBounds_toArray, List.set_cons_zero, List.set_cons_succ]
                  refine wpAnyH_ready (rs := [13]) (by kernel_rfl) (by simp) ?_
                  refine AllReadyH.cons (o := { dst := none, op := Op.store 27 (Operand.tmp 8) (Operand.tmp 53), type := 0, pos := "draw.go:219", after := #[{ on := 12, ground := Ground.data }, { on := 10, ground := Ground.data }, { on := 8, ground := Ground.chain }, { on := 0, ground := Ground.phase }, { on := 1, ground := Ground.phase }, { on := 2, ground := Ground.phase }, { on := 3, ground := Ground.phase }, { on := 4, ground := Ground.phase }, { on := 5, ground := Ground.phase }, { on := 6, ground := Ground.phase }, { on := 7, ground := Ground.phase }, { on := 8, ground := Ground.phase }, { on := 9, ground := Ground.phase }, { on := 10, ground := Ground.phase }, { on := 11, ground := Ground.textOnly Departure.lateStores }, { on := 12, ground := Ground.phase }], guard := none }) rfl (fun K hK => ?_) (AllReadyH.nil)
                  rw [if_pos (by rfl)]
                  refine wp_store_ob 27 (.tmp 8) (.tmp 53) B3 (dvCells (.slice apy Y.pages.length cpy) Y (.slice auy Y.unread.length cuy) (.slice afy Y.faults.length cfy)) (dvCells nilS dvNil nilS nilS) 27 rfl rfl rfl rfl ((HS114.out).get 3 rfl) (info_dv) (rfl) ((oneCell_dv _ _ _ _ _ _ _ _ _ _)) ?_
                  have HS115 : Hid (DrH w C [.ob (w.heap.size) 27 (dvCells nilS dvNil nilS nilS), .ob B1 27 (dvCells (.slice apb d1.pages.length cpb) d1 (.slice aub d1.unread.length cub) (.slice afb d1.faults.length cfb)), .rd R1, .ob B3 27 (dvCells (.slice apy Y.pages.length cpy) Y (.slice auy Y.unread.length cuy) (.slice afy Y.faults.length cfy)), .rd Ry] (w114.setRow B3 (dvCells (.slice apy Y.pages.length cpy) Y (.slice auy Y.unread.length cuy) (.slice afy Y.faults.length cfy)).toArray)) := (HS114.out).row 3 rfl (dvCells (.slice apy Y.pages.length cpy) Y (.slice auy Y.unread.length cuy) (.slice afy Y.faults.length cfy))
                  refine hK.out _ _ (HS115.out.pick [1] rfl) (fun hHeld => ?_)
                  clear hK K
                  generalize (w114.setRow B3 (dvCells (.slice apy Y.pages.length cpy) Y (.slice auy Y.unread.length cuy) (.slice afy Y.faults.length cfy)).toArray) = w115 at *
                  try simp only [Act.put, List.setIfInBounds_toArray, List.set_cons_zero, List.set_cons_succ]
                  refine wpAnyH_take (i := 14) (oi := { dst := some 9, op := Op.assign (Operand.tmp 54), type := 35, pos := "draw.go:219", after := #[{ on := 11, ground := Ground.data }, { on := 13, ground := Ground.chain }, { on := 0, ground := Ground.phase }, { on := 1, ground := Ground.phase }, { on := 2, ground := Ground.phase }, { on := 3, ground := Ground.phase }, { on := 4, ground := Ground.phase }, { on := 5, ground := Ground.phase }, { on := 6, ground := Ground.phase }, { on := 7, ground := Ground.phase }, { on := 8, ground := Ground.phase }, { on := 9, ground := Ground.phase }, { on := 10, ground := Ground.phase }, { on := 11, ground := Ground.phase }, { on := 12, ground := Ground.phase }, { on := 13, ground := Ground.phase }], guard := none }) (v := ?q77v) rfl (by kernel_rfl) (by kernel_rfl) (by kernel_rfl) (fun _ _ _ h => h) (Or.inl ⟨by rfl, ?q77h⟩) hHeld ?q77r
                  case q77h => (intro wq hSw; clear hSw; go_simp; try with_reducible rfl)
                  try simp only [Act.put, List.setIfInBounds_toArray, List.set_cons_zero, List.set_cons_succ]
                  refine wpAnyH_done (by kernel_rfl) ?_ _
                  clear hHeld
                  have HS116 : Hid (DrH w C [.ob (w.heap.size) 27 (dvCells nilS dvNil nilS nilS), .ob B1 27 (dvCells (.slice apb d1.pages.length cpb) d1 (.slice aub d1.unread.length cub) (.slice afb d1.faults.length cfb)), .rd R1, .ob B3 27 (dvCells (.slice apy Y.pages.length cpy) Y (.slice auy Y.unread.length cuy) (.slice afy Y.faults.length cfy)), .rd Ry] w115) := HS115.out
                  clear HS115
                  have HS117 : Hid (DrH w C [.ob (w.heap.size) 27 (dvCells nilS dvNil nilS nilS), .ob B1 27 (dvCells (.slice apb d1.pages.length cpb) d1 (.slice aub d1.unread.length cub) (.slice afb d1.faults.length cfb)), .rd R1, .ob B3 27 (dvCells (.slice apy Y.pages.length cpy) Y (.slice auy Y.unread.length cuy) (.slice afy Y.faults.length cfy)), .rd Ry] w115) := HS116.out.pull [0, 1, 2, 3, 4] rfl (pull_nd HS116.out.nd [0, 1, 2, 3, 4] rfl (by decide))
                  clear HS116
                  have hiw := HIw.out
                  by_cases hc0 : cY = 0
                  · have HOy : Hid (DvOk Y) := Lib.hid (write_keep HOk.out HSz.out HY.out hc0)
                    subst hc0
                    go_upto_region 10 with (fail)
                    have HS118 : Hid (DrH w C [.ob (w.heap.size) 27 (dvCells nilS dvNil nilS nilS), .ob B1 27 (dvCells (.slice apb d1.pages.length cpb) d1 (.slice aub d1.unread.length cub) (.slice afb d1.faults.length cfb)), .rd R1, .ob B3 27 (dvCells (.slice apy Y.pages.length cpy) Y (.slice auy Y.unread.length cuy) (.slice afy Y.faults.length cfy)), .rd Ry] w115) := HS117.out
                    clear HS117
                    go_wp2_with (first | ((with_reducible refine wpList_load_ob 27 (.tmp 8) B3 (dvCells (.slice apy Y.pages.length cpy) Y (.slice auy Y.unread.length cuy) (.slice afy Y.faults.length cfy)) 27 HUD.out ?_ ?_ ?_ ?_ ?_); (exact rfl); (exact (HS118.out).get 3 rfl); (exact rfl); (exact info_dv); simp only [Act.put, List.setIfInBounds_toArray, List.set_cons_zero, List.set_cons_succ]) | ((with_reducible refine wpList_store_ob 27 (.tmp 3) B1 (dvCells (.slice apy Y.pages.length cpy) Y (.slice auy Y.unread.length cuy) (.slice afy Y.faults.length cfy)) (dvCells (.slice apb d1.pages.length cpb) d1 (.slice aub d1.unread.length cub) (.slice afb d1.faults.length cfb)) 27 ?_ ?_ ?_ ?_ ?_ ?_ ?_); (exact rfl); (exact rfl); (exact (HS118.out).get 1 rfl); (exact info_dv); (exact rfl); (exact (oneCell_dv _ _ _ _ _ _ _ _ _ _)); skip))
                    go_roundw
                    case rel => exact ⟨Y, _, _, _, _, i - 1, rfl, by have := HI.out; omega, by have := HI.out; omega, HOy.out, HDvy.out, ((HS118.out).row 1 rfl (dvCells (.slice apy Y.pages.length cpy) Y (.slice auy Y.unread.length cuy) (.slice afy Y.faults.length cfy))).pull [0, 1, 4] rfl (pull_nd ((HS118.out).row 1 rfl (dvCells (.slice apy Y.pages.length cpy) Y (.slice auy Y.unread.length cuy) (.slice afy Y.faults.length cfy))).nd [0, 1, 4] rfl (by decide))⟩
                    case measure => simp [intOf]; have := HI.out; omega
                  · have hcb : (cY == 0) = false := by rw [beq_eq_false_iff_ne]; exact hc0
                    clear hc0
                    go_wp2_with fail
                    go_roundw
                    case rel => exact ⟨d1, _, _, _, _, i - 1, rfl, by have := HI.out; omega, by have := HI.out; omega, HOk.out, HDa.out, (HS117.out).pull [0, 1, 2] rfl (pull_nd (HS117.out).nd [0, 1, 2] rfl (by decide))⟩
                    case measure => simp [intOf]; have := HI.out; omega
              · rw [if_pos (by rfl)]
                refine wp_alloc_ob 27 (dvCells nilS dvNil nilS nilS) rfl alloc_dv ?_
                have HS112 : Hid (DrH w C [.ob (w.heap.size) 27 (dvCells nilS dvNil nilS nilS), .ob B1 27 (dvCells (.slice apb d1.pages.length cpb) d1 (.slice aub d1.unread.length cub) (.slice afb d1.faults.length cfb)), .rd R1, .ob (w111.heap.size) 27 (dvCells nilS dvNil nilS nilS)] (w111.alloc (.cells (dvCells nilS dvNil nilS nilS).toArray 27))) := (HS111.out).put 27 (dvCells nilS dvNil nilS nilS)
                refine hK.out _ _ (HS112.out.pick [1] rfl) (fun hHeld => ?_)
                clear hK K
                generalize (w111.alloc (.cells (dvCells nilS dvNil nilS nilS).toArray 27)) = w112 at *
                generalize w111.heap.size = B3 at *
                try simp only [Act.put, List.setIfInBounds_toArray, List.set_cons_zero, List.set_cons_succ]
                refine wpAnyH_ready (rs := [7]) (by kernel_rfl) (by simp) ?_
                refine AllReadyH.cons (o := { dst := some 51, op := Op.call { callee := Callee.value (Operand.func 18), args := #[Operand.tmp 50], argTypes := #[32] }, type := 9, pos := "draw.go:219", after := #[{ on := 6, ground := Ground.data }, { on := 5, ground := Ground.chain }], guard := none }) rfl (fun K hK => ?_) (AllReadyH.nil)
                go_simp
                go_wp2_with (go_at_call 18; refine (bytes_any C _ (HS112.out).codes).mono ?_; rintro e w113 ⟨s, rfl, hs2, hb, hc⟩)
                have HS113 : Hid (DrH w C [.ob (w.heap.size) 27 (dvCells nilS dvNil nilS nilS), .ob B1 27 (dvCells (.slice apb d1.pages.length cpb) d1 (.slice aub d1.unread.length cub) (.slice afb d1.faults.length cfb)), .rd R1, .ob B3 27 (dvCells nilS dvNil nilS nilS)] w113) := (HS112.out).draws hb hc
                refine hK.out _ _ (HS113.out.pick [1] rfl) (fun hHeld => ?_)
                clear hK K hb hc
                have HSz := Lib.hid hs2
                have HSm : Hid (s.size ≤ maxLen) := by show _ ≤ _; rw [hs2]; decide
                clear hs2
                try simp only [Act.put, List.setIfInBounds_toArray, List.set_cons_zero, List.set_cons_succ]
                refine wpAnyH_ready (rs := [8]) (by kernel_rfl) (by simp) ?_
                refine AllReadyH.cons (o := { dst := some 52, op := Op.call { callee := Callee.value (Operand.func 21), args := #[Operand.tmp 44, Operand.tmp 49, Operand.tmp 51], argTypes := #[27, 3, 9] }, type := 36, pos := "draw.go:219", after := #[{ on := 0, ground := Ground.data }, { on := 5, ground := Ground.data }, { on := 7, ground := Ground.data }, { on := 7, ground := Ground.chain }], guard := none }) rfl (fun K hK => ?_) (AllReadyH.nil)
                obtain ⟨Y, cY, hY⟩ : ∃ Y cY, writeR d1 q s = (Y, cY) := ⟨_, _, rfl⟩
                have HY := Lib.hid hY
                clear hY
                go_simp
                go_wp2_with (go_at_call 21; refine (dv_as HY.out (rwrite_any q s _ HDa.out ((HS113.out).reads 2 rfl) HOk.out.goodDv HSm.out HOk.out.pg HOk.out.fl)).mono ?_; rintro e w114 ⟨py, uy, fy, Ry, rfl, hrd, hin, hnew, hb⟩)
                obtain ⟨apy, cpy, rfl, _⟩ := hrd.pages
                obtain ⟨auy, cuy, rfl, _⟩ := hrd.unread
                obtain ⟨afy, cfy, rfl, _⟩ := hrd.faults
                have HDvy := Lib.hid hrd
                have HS114 : Hid (DrH w C [.ob (w.heap.size) 27 (dvCells nilS dvNil nilS nilS), .ob B1 27 (dvCells (.slice apb d1.pages.length cpb) d1 (.slice aub d1.unread.length cub) (.slice afb d1.faults.length cfb)), .rd R1, .ob B3 27 (dvCells nilS dvNil nilS nilS), .rd Ry] w114) := (HS113.out).addrd hb Ry hin (fun r hr => (hnew r hr).elim .inl (fun h => .inr ⟨.rd R1, List.mem_of_getElem? (i := 2) rfl, List.mem_map.2 ⟨r, h, rfl⟩⟩))
                refine hK.out _ _ (HS114.out.pick [1] rfl) (fun hHeld => ?_)
                clear hK K hb hin hnew hrd
                try simp only [Act.put, List.setIfInBounds_toArray, List.set_cons_zero, List.set_cons_succ]
                refine wpAnyH_take (i := 9) (oi := { dst := some 43, op := Op.move (Operand.tmp 52), type := 36, pos := "draw.go:219", after := #[{ on := 8, ground := Ground.data }], guard := none }) (v := ?q78v) rfl (by kernel_rfl) (by kernel_rfl) (by kernel_rfl) (fun _ _ _ h => h) (Or.inl ⟨by rfl, ?q78h⟩) hHeld ?q78r
                case q78h => (intro wq hSw; clear hSw; go_simp; try with_reducible rfl)
                try simp only [Act.put, List.setIfInBounds_toArray, List.set_cons_zero, List.set_cons_succ]
                refine wpAnyH_take (i := 10) (oi := { dst := some 53, op := Op.extract (Operand.tmp 43) 0, type := 27, pos := "draw.go:219", after := #[{ on := 9, ground := Ground.data }], guard := none }) (v := ?q79v) rfl (by kernel_rfl) (by kernel_rfl) (by kernel_rfl) (fun _ _ _ h => h) (Or.inl ⟨by rfl, ?q79h⟩) hHeld ?q79r
                case q79h => (intro wq hSw; clear hSw; go_simp; try with_reducible rfl)
                try simp only [Act.put, List.setIfInBounds_toArray, List.set_cons_zero, List.set_cons_succ]
                refine wpAnyH_take (i := 11) (oi := { dst := some 54, op := Op.extract (Operand.tmp 43) 1, type := 35, pos := "draw.go:219", after := #[{ on := 9, ground := Ground.data }, { on := 13, ground := Ground.gcOnly Departure.lateStores }], guard := none }) (v := ?q80v) rfl (by kernel_rfl) (by kernel_rfl) (by kernel_rfl) (fun _ _ _ h => h) (Or.inl ⟨by rfl, ?q80h⟩) hHeld ?q80r
                case q80h => (intro wq hSw; clear hSw; go_simp; try with_reducible rfl)
                try simp only [Act.put, List.setIfInBounds_toArray, List.set_cons_zero, List.set_cons_succ]
                refine wpAnyH_ready (rs := [13]) (by kernel_rfl) (by simp) ?_
                refine AllReadyH.cons (o := { dst := none, op := Op.store 27 (Operand.tmp 8) (Operand.tmp 53), type := 0, pos := "draw.go:219", after := #[{ on := 12, ground := Ground.data }, { on := 10, ground := Ground.data }, { on := 8, ground := Ground.chain }, { on := 0, ground := Ground.phase }, { on := 1, ground := Ground.phase }, { on := 2, ground := Ground.phase }, { on := 3, ground := Ground.phase }, { on := 4, ground := Ground.phase }, { on := 5, ground := Ground.phase }, { on := 6, ground := Ground.phase }, { on := 7, ground := Ground.phase }, { on := 8, ground := Ground.phase }, { on := 9, ground := Ground.phase }, { on := 10, ground := Ground.phase }, { on := 11, ground := Ground.textOnly Departure.lateStores }, { on := 12, ground := Ground.phase }], guard := none }) rfl (fun K hK => ?_) (AllReadyH.nil)
                rw [if_pos (by rfl)]
                refine wp_store_ob 27 (.tmp 8) (.tmp 53) B3 (dvCells (.slice apy Y.pages.length cpy) Y (.slice auy Y.unread.length cuy) (.slice afy Y.faults.length cfy)) (dvCells nilS dvNil nilS nilS) 27 rfl rfl rfl rfl ((HS114.out).get 3 rfl) (info_dv) (rfl) ((oneCell_dv _ _ _ _ _ _ _ _ _ _)) ?_
                have HS115 : Hid (DrH w C [.ob (w.heap.size) 27 (dvCells nilS dvNil nilS nilS), .ob B1 27 (dvCells (.slice apb d1.pages.length cpb) d1 (.slice aub d1.unread.length cub) (.slice afb d1.faults.length cfb)), .rd R1, .ob B3 27 (dvCells (.slice apy Y.pages.length cpy) Y (.slice auy Y.unread.length cuy) (.slice afy Y.faults.length cfy)), .rd Ry] (w114.setRow B3 (dvCells (.slice apy Y.pages.length cpy) Y (.slice auy Y.unread.length cuy) (.slice afy Y.faults.length cfy)).toArray)) := (HS114.out).row 3 rfl (dvCells (.slice apy Y.pages.length cpy) Y (.slice auy Y.unread.length cuy) (.slice afy Y.faults.length cfy))
                refine hK.out _ _ (HS115.out.pick [1] rfl) (fun hHeld => ?_)
                clear hK K
                generalize (w114.setRow B3 (dvCells (.slice apy Y.pages.length cpy) Y (.slice auy Y.unread.length cuy) (.slice afy Y.faults.length cfy)).toArray) = w115 at *
                try simp only [Act.put, List.setIfInBounds_toArray, List.set_cons_zero, List.set_cons_succ]
                refine wpAnyH_take (i := 14) (oi := { dst := some 9, op := Op.assign (Operand.tmp 54), type := 35, pos := "draw.go:219", after := #[{ on := 11, ground := Ground.data }, { on := 13, ground := Ground.chain }, { on := 0, ground := Ground.phase }, { on := 1, ground := Ground.phase }, { on := 2, ground := Ground.phase }, { on := 3, ground := Ground.phase }, { on := 4, ground := Ground.phase }, { on := 5, ground := Ground.phase }, { on := 6, ground := Ground.phase }, { on := 7, ground := Ground.phase }, { on := 8, ground := Ground.phase }, { on := 9, ground := Ground.phase }, { on := 10, ground := Ground.phase }, { on := 11, ground := Ground.phase }, { on := 12, ground := Ground.phase }, { on := 13, ground := Ground.phase }], guard := none }) (v := ?q81v) rfl (by kernel_rfl) (by kernel_rfl) (by kernel_rfl) (fun _ _ _ h => h) (Or.inl ⟨by rfl, ?q81h⟩) hHeld ?q81r
                case q81h => (intro wq hSw; clear hSw; go_simp; try with_reducible rfl)
                try simp only [Act.put, List.setIfInBounds_toArray, List.set_cons_zero, List.set_cons_succ]
                refine wpAnyH_done (by kernel_rfl) ?_ _
                clear hHeld
                have HS116 : Hid (DrH w C [.ob (w.heap.size) 27 (dvCells nilS dvNil nilS nilS), .ob B1 27 (dvCells (.slice apb d1.pages.length cpb) d1 (.slice aub d1.unread.length cub) (.slice afb d1.faults.length cfb)), .rd R1, .ob B3 27 (dvCells (.slice apy Y.pages.length cpy) Y (.slice auy Y.unread.length cuy) (.slice afy Y.faults.length cfy)), .rd Ry] w115) := HS115.out
                clear HS115
                have HS117 : Hid (DrH w C [.ob (w.heap.size) 27 (dvCells nilS dvNil nilS nilS), .ob B1 27 (dvCells (.slice apb d1.pages.length cpb) d1 (.slice aub d1.unread.length cub) (.slice afb d1.faults.length cfb)), .rd R1, .ob B3 27 (dvCells (.slice apy Y.pages.length cpy) Y (.slice auy Y.unread.length cuy) (.slice afy Y.faults.length cfy)), .rd Ry] w115) := HS116.out.pull [0, 1, 2, 3, 4] rfl (pull_nd HS116.out.nd [0, 1, 2, 3, 4] rfl (by decide))
                clear HS116
                have hiw := HIw.out
                by_cases hc0 : cY = 0
                · have HOy : Hid (DvOk Y) := Lib.hid (write_keep HOk.out HSz.out HY.out hc0)
                  subst hc0
                  go_upto_region 10 with (fail)
                  have HS118 : Hid (DrH w C [.ob (w.heap.size) 27 (dvCells nilS dvNil nilS nilS), .ob B1 27 (dvCells (.slice apb d1.pages.length cpb) d1 (.slice aub d1.unread.length cub) (.slice afb d1.faults.length cfb)), .rd R1, .ob B3 27 (dvCells (.slice apy Y.pages.length cpy) Y (.slice auy Y.unread.length cuy) (.slice afy Y.faults.length cfy)), .rd Ry] w115) := HS117.out
                  clear HS117
                  go_wp2_with (first | ((with_reducible refine wpList_load_ob 27 (.tmp 8) B3 (dvCells (.slice apy Y.pages.length cpy) Y (.slice auy Y.unread.length cuy) (.slice afy Y.faults.length cfy)) 27 HUD.out ?_ ?_ ?_ ?_ ?_); (exact rfl); (exact (HS118.out).get 3 rfl); (exact rfl); (exact info_dv); simp only [Act.put, List.setIfInBounds_toArray, List.set_cons_zero, List.set_cons_succ]) | ((with_reducible refine wpList_store_ob 27 (.tmp 3) B1 (dvCells (.slice apy Y.pages.length cpy) Y (.slice auy Y.unread.length cuy) (.slice afy Y.faults.length cfy)) (dvCells (.slice apb d1.pages.length cpb) d1 (.slice aub d1.unread.length cub) (.slice afb d1.faults.length cfb)) 27 ?_ ?_ ?_ ?_ ?_ ?_ ?_); (exact rfl); (exact rfl); (exact (HS118.out).get 1 rfl); (exact info_dv); (exact rfl); (exact (oneCell_dv _ _ _ _ _ _ _ _ _ _)); skip))
                  go_roundw
                  case rel => exact ⟨Y, _, _, _, _, i - 1, rfl, by have := HI.out; omega, by have := HI.out; omega, HOy.out, HDvy.out, ((HS118.out).row 1 rfl (dvCells (.slice apy Y.pages.length cpy) Y (.slice auy Y.unread.length cuy) (.slice afy Y.faults.length cfy))).pull [0, 1, 4] rfl (pull_nd ((HS118.out).row 1 rfl (dvCells (.slice apy Y.pages.length cpy) Y (.slice auy Y.unread.length cuy) (.slice afy Y.faults.length cfy))).nd [0, 1, 4] rfl (by decide))⟩
                  case measure => simp [intOf]; have := HI.out; omega
                · have hcb : (cY == 0) = false := by rw [beq_eq_false_iff_ne]; exact hc0
                  clear hc0
                  go_wp2_with fail
                  go_roundw
                  case rel => exact ⟨d1, _, _, _, _, i - 1, rfl, by have := HI.out; omega, by have := HI.out; omega, HOk.out, HDa.out, (HS117.out).pull [0, 1, 2] rfl (pull_nd (HS117.out).nd [0, 1, 2] rfl (by decide))⟩
                  case measure => simp [intOf]; have := HI.out; omega
            · rw [if_pos (by rfl)]
              refine wp_alloc_ob 27 (dvCells nilS dvNil nilS nilS) rfl alloc_dv ?_
              have HS111 : Hid (DrH w C [.ob (w.heap.size) 27 (dvCells nilS dvNil nilS nilS), .ob B1 27 (dvCells (.slice apb d1.pages.length cpb) d1 (.slice aub d1.unread.length cub) (.slice afb d1.faults.length cfb)), .rd R1, .ob (w100.drew.heap.size) 27 (dvCells nilS dvNil nilS nilS)] (w100.drew.alloc (.cells (dvCells nilS dvNil nilS nilS).toArray 27))) := ((HQ2.out).drew).put 27 (dvCells nilS dvNil nilS nilS)
              refine hK.out _ _ (HS111.out.pick [1] rfl) (fun hHeld => ?_)
              clear hK K
              generalize (w100.drew.alloc (.cells (dvCells nilS dvNil nilS nilS).toArray 27)) = w111 at *
              generalize w100.drew.heap.size = B3 at *
              try simp only [Act.put, List.setIfInBounds_toArray, List.set_cons_zero, List.set_cons_succ]
              refine wpAnyH_ready (rs := [5]) (by kernel_rfl) (by simp) ?_
              refine AllReadyH.cons (o := { dst := some 49, op := Op.call { callee := Callee.value (Operand.func 17), args := #[Operand.tmp 45, Operand.tmp 48], argTypes := #[32, 3] }, type := 3, pos := "draw.go:219", after := #[{ on := 1, ground := Ground.data }, { on := 4, ground := Ground.data }], guard := none }) rfl (fun K hK => ?_) (AllReadyH.nil)
              go_simp
              go_wp2_with (go_at_call 17; refine (next_any C d1.pages.length _ (HS111.out).codes (Int.le_trans HPl.out.2 (by decide))).mono ?_; rintro e w112 ⟨qn, rfl, q0, q1, hb, hc⟩)
              have HS112 : Hid (DrH w C [.ob (w.heap.size) 27 (dvCells nilS dvNil nilS nilS), .ob B1 27 (dvCells (.slice apb d1.pages.length cpb) d1 (.slice aub d1.unread.length cub) (.slice afb d1.faults.length cfb)), .rd R1, .ob B3 27 (dvCells nilS dvNil nilS nilS)] w112) := (HS111.out).draws hb hc
              refine hK.out _ _ (HS112.out.pick [1] rfl) (fun hHeld => ?_)
              clear hK K hb hc
              obtain ⟨q, rfl⟩ := Int.eq_ofNat_of_zero_le q0
              clear q0 q1
              try simp only [Act.put, List.setIfInBounds_toArray, List.set_cons_zero, List.set_cons_succ]
              refine wpAnyH_ready (rs := [7]) (by kernel_rfl) (by simp) ?_
              refine AllReadyH.cons (o := { dst := some 51, op := Op.call { callee := Callee.value (Operand.func 18), args := #[Operand.tmp 50], argTypes := #[32] }, type := 9, pos := "draw.go:219", after := #[{ on := 6, ground := Ground.data }, { on := 5, ground := Ground.chain }], guard := none }) rfl (fun K hK => ?_) (AllReadyH.nil)
              go_simp
              go_wp2_with (go_at_call 18; refine (bytes_any C _ (HS112.out).codes).mono ?_; rintro e w113 ⟨s, rfl, hs2, hb, hc⟩)
              have HS113 : Hid (DrH w C [.ob (w.heap.size) 27 (dvCells nilS dvNil nilS nilS), .ob B1 27 (dvCells (.slice apb d1.pages.length cpb) d1 (.slice aub d1.unread.length cub) (.slice afb d1.faults.length cfb)), .rd R1, .ob B3 27 (dvCells nilS dvNil nilS nilS)] w113) := (HS112.out).draws hb hc
              refine hK.out _ _ (HS113.out.pick [1] rfl) (fun hHeld => ?_)
              clear hK K hb hc
              have HSz := Lib.hid hs2
              have HSm : Hid (s.size ≤ maxLen) := by show _ ≤ _; rw [hs2]; decide
              clear hs2
              try simp only [Act.put, List.setIfInBounds_toArray, List.set_cons_zero, List.set_cons_succ]
              refine wpAnyH_ready (rs := [8]) (by kernel_rfl) (by simp) ?_
              refine AllReadyH.cons (o := { dst := some 52, op := Op.call { callee := Callee.value (Operand.func 21), args := #[Operand.tmp 44, Operand.tmp 49, Operand.tmp 51], argTypes := #[27, 3, 9] }, type := 36, pos := "draw.go:219", after := #[{ on := 0, ground := Ground.data }, { on := 5, ground := Ground.data }, { on := 7, ground := Ground.data }, { on := 7, ground := Ground.chain }], guard := none }) rfl (fun K hK => ?_) (AllReadyH.nil)
              obtain ⟨Y, cY, hY⟩ : ∃ Y cY, writeR d1 q s = (Y, cY) := ⟨_, _, rfl⟩
              have HY := Lib.hid hY
              clear hY
              go_simp
              go_wp2_with (go_at_call 21; refine (dv_as HY.out (rwrite_any q s _ HDa.out ((HS113.out).reads 2 rfl) HOk.out.goodDv HSm.out HOk.out.pg HOk.out.fl)).mono ?_; rintro e w114 ⟨py, uy, fy, Ry, rfl, hrd, hin, hnew, hb⟩)
              obtain ⟨apy, cpy, rfl, _⟩ := hrd.pages
              obtain ⟨auy, cuy, rfl, _⟩ := hrd.unread
              obtain ⟨afy, cfy, rfl, _⟩ := hrd.faults
              have HDvy := Lib.hid hrd
              have HS114 : Hid (DrH w C [.ob (w.heap.size) 27 (dvCells nilS dvNil nilS nilS), .ob B1 27 (dvCells (.slice apb d1.pages.length cpb) d1 (.slice aub d1.unread.length cub) (.slice afb d1.faults.length cfb)), .rd R1, .ob B3 27 (dvCells nilS dvNil nilS nilS), .rd Ry] w114) := (HS113.out).addrd hb Ry hin (fun r hr => (hnew r hr).elim .inl (fun h => .inr ⟨.rd R1, List.mem_of_getElem? (i := 2) rfl, List.mem_map.2 ⟨r, h, rfl⟩⟩))
              refine hK.out _ _ (HS114.out.pick [1] rfl) (fun hHeld => ?_)
              clear hK K hb hin hnew hrd
              try simp only [Act.put, List.setIfInBounds_toArray, List.set_cons_zero, List.set_cons_succ]
              refine wpAnyH_take (i := 9) (oi := { dst := some 43, op := Op.move (Operand.tmp 52), type := 36, pos := "draw.go:219", after := #[{ on := 8, ground := Ground.data }], guard := none }) (v := ?q82v) rfl (by kernel_rfl) (by kernel_rfl) (by kernel_rfl) (fun _ _ _ h => h) (Or.inl ⟨by rfl, ?q82h⟩) hHeld ?q82r
              case q82h => (intro wq hSw; clear hSw; go_simp; try with_reducible rfl)
              try simp only [Act.put, List.setIfInBounds_toArray, List.set_cons_zero, List.set_cons_succ]
              refine wpAnyH_take (i := 10) (oi := { dst := some 53, op := Op.extract (Operand.tmp 43) 0, type := 27, pos := "draw.go:219", after := #[{ on := 9, ground := Ground.data }], guard := none }) (v := ?q83v) rfl (by kernel_rfl) (by kernel_rfl) (by kernel_rfl) (fun _ _ _ h => h) (Or.inl ⟨by rfl, ?q83h⟩) hHeld ?q83r
              case q83h => (intro wq hSw; clear hSw; go_simp; try with_reducible rfl)
              try simp only [Act.put, List.setIfInBounds_toArray, List.set_cons_zero, List.set_cons_succ]
              refine wpAnyH_take (i := 11) (oi := { dst := some 54, op := Op.extract (Operand.tmp 43) 1, type := 35, pos := "draw.go:219", after := #[{ on := 9, ground := Ground.data }, { on := 13, ground := Ground.gcOnly Departure.lateStores }], guard := none }) (v := ?q84v) rfl (by kernel_rfl) (by kernel_rfl) (by kernel_rfl) (fun _ _ _ h => h) (Or.inl ⟨by rfl, ?q84h⟩) hHeld ?q84r
              case q84h => (intro wq hSw; clear hSw; go_simp; try with_reducible rfl)
              try simp only [Act.put, List.setIfInBounds_toArray, List.set_cons_zero, List.set_cons_succ]
              refine wpAnyH_ready (rs := [13]) (by kernel_rfl) (by simp) ?_
              refine AllReadyH.cons (o := { dst := none, op := Op.store 27 (Operand.tmp 8) (Operand.tmp 53), type := 0, pos := "draw.go:219", after := #[{ on := 12, ground := Ground.data }, { on := 10, ground := Ground.data }, { on := 8, ground := Ground.chain }, { on := 0, ground := Ground.phase }, { on := 1, ground := Ground.phase }, { on := 2, ground := Ground.phase }, { on := 3, ground := Ground.phase }, { on := 4, ground := Ground.phase }, { on := 5, ground := Ground.phase }, { on := 6, ground := Ground.phase }, { on := 7, ground := Ground.phase }, { on := 8, ground := Ground.phase }, { on := 9, ground := Ground.phase }, { on := 10, ground := Ground.phase }, { on := 11, ground := Ground.textOnly Departure.lateStores }, { on := 12, ground := Ground.phase }], guard := none }) rfl (fun K hK => ?_) (AllReadyH.nil)
              rw [if_pos (by rfl)]
              refine wp_store_ob 27 (.tmp 8) (.tmp 53) B3 (dvCells (.slice apy Y.pages.length cpy) Y (.slice auy Y.unread.length cuy) (.slice afy Y.faults.length cfy)) (dvCells nilS dvNil nilS nilS) 27 rfl rfl rfl rfl ((HS114.out).get 3 rfl) (info_dv) (rfl) ((oneCell_dv _ _ _ _ _ _ _ _ _ _)) ?_
              have HS115 : Hid (DrH w C [.ob (w.heap.size) 27 (dvCells nilS dvNil nilS nilS), .ob B1 27 (dvCells (.slice apb d1.pages.length cpb) d1 (.slice aub d1.unread.length cub) (.slice afb d1.faults.length cfb)), .rd R1, .ob B3 27 (dvCells (.slice apy Y.pages.length cpy) Y (.slice auy Y.unread.length cuy) (.slice afy Y.faults.length cfy)), .rd Ry] (w114.setRow B3 (dvCells (.slice apy Y.pages.length cpy) Y (.slice auy Y.unread.length cuy) (.slice afy Y.faults.length cfy)).toArray)) := (HS114.out).row 3 rfl (dvCells (.slice apy Y.pages.length cpy) Y (.slice auy Y.unread.length cuy) (.slice afy Y.faults.length cfy))
              refine hK.out _ _ (HS115.out.pick [1] rfl) (fun hHeld => ?_)
              clear hK K
              generalize (w114.setRow B3 (dvCells (.slice apy Y.pages.length cpy) Y (.slice auy Y.unread.length cuy) (.slice afy Y.faults.length cfy)).toArray) = w115 at *
              try simp only [Act.put, List.setIfInBounds_toArray, List.set_cons_zero, List.set_cons_succ]
              refine wpAnyH_take (i := 14) (oi := { dst := some 9, op := Op.assign (Operand.tmp 54), type := 35, pos := "draw.go:219", after := #[{ on := 11, ground := Ground.data }, { on := 13, ground := Ground.chain }, { on := 0, ground := Ground.phase }, { on := 1, ground := Ground.phase }, { on := 2, ground := Ground.phase }, { on := 3, ground := Ground.phase }, { on := 4, ground := Ground.phase }, { on := 5, ground := Ground.phase }, { on := 6, ground := Ground.phase }, { on := 7, ground := Ground.phase }, { on := 8, ground := Ground.phase }, { on := 9, ground := Ground.phase }, { on := 10, ground := Ground.phase }, { on := 11, ground := Ground.phase }, { on := 12, ground := Ground.phase }, { on := 13, ground := Ground.phase }], guard := none }) (v := ?q85v) rfl (by kernel_rfl) (by kernel_rfl) (by kernel_rfl) (fun _ _ _ h => h) (Or.inl ⟨by rfl, ?q85h⟩) hHeld ?q85r
              case q85h => (intro wq hSw; clear hSw; go_simp; try with_reducible rfl)
              try simp only [Act.put, List.setIfInBounds_toArray, List.set_cons_zero, List.set_cons_succ]
              refine wpAnyH_done (by kernel_rfl) ?_ _
              clear hHeld
              have HS116 : Hid (DrH w C [.ob (w.heap.size) 27 (dvCells nilS dvNil nilS nilS), .ob B1 27 (dvCells (.slice apb d1.pages.length cpb) d1 (.slice aub d1.unread.length cub) (.slice afb d1.faults.length cfb)), .rd R1, .ob B3 27 (dvCells (.slice apy Y.pages.length cpy) Y (.slice auy Y.unread.length cuy) (.slice afy Y.faults.length cfy)), .rd Ry] w115) := HS115.out
              clear HS115
              have HS117 : Hid (DrH w C [.ob (w.heap.size) 27 (dvCells nilS dvNil nilS nilS), .ob B1 27 (dvCells (.slice apb d1.pages.length cpb) d1 (.slice aub d1.unread.length cub) (.slice afb d1.faults.length cfb)), .rd R1, .ob B3 27 (dvCells (.slice apy Y.pages.length cpy) Y (.slice auy Y.unread.length cuy) (.slice afy Y.faults.length cfy)), .rd Ry] w115) := HS116.out.pull [0, 1, 2, 3, 4] rfl (pull_nd HS116.out.nd [0, 1, 2, 3, 4] rfl (by decide))
              clear HS116
              have hiw := HIw.out
              by_cases hc0 : cY = 0
              · have HOy : Hid (DvOk Y) := Lib.hid (write_keep HOk.out HSz.out HY.out hc0)
                subst hc0
                go_upto_region 10 with (fail)
                have HS118 : Hid (DrH w C [.ob (w.heap.size) 27 (dvCells nilS dvNil nilS nilS), .ob B1 27 (dvCells (.slice apb d1.pages.length cpb) d1 (.slice aub d1.unread.length cub) (.slice afb d1.faults.length cfb)), .rd R1, .ob B3 27 (dvCells (.slice apy Y.pages.length cpy) Y (.slice auy Y.unread.length cuy) (.slice afy Y.faults.length cfy)), .rd Ry] w115) := HS117.out
                clear HS117
                go_wp2_with (first | ((with_reducible refine wpList_load_ob 27 (.tmp 8) B3 (dvCells (.slice apy Y.pages.length cpy) Y (.slice auy Y.unread.length cuy) (.slice afy Y.faults.length cfy)) 27 HUD.out ?_ ?_ ?_ ?_ ?_); (exact rfl); (exact (HS118.out).get 3 rfl); (exact rfl); (exact info_dv); simp only [Act.put, List.setIfInBounds_toArray, List.set_cons_zero, List.set_cons_succ]) | ((with_reducible refine wpList_store_ob 27 (.tmp 3) B1 (dvCells (.slice apy Y.pages.length cpy) Y (.slice auy Y.unread.length cuy) (.slice afy Y.faults.length cfy)) (dvCells (.slice apb d1.pages.length cpb) d1 (.slice aub d1.unread.length cub) (.slice afb d1.faults.length cfb)) 27 ?_ ?_ ?_ ?_ ?_ ?_ ?_); (exact rfl); (exact rfl); (exact (HS118.out).get 1 rfl); (exact info_dv); (exact rfl); (exact (oneCell_dv _ _ _ _ _ _ _ _ _ _)); skip))
                go_roundw
                case rel => exact ⟨Y, _, _, _, _, i - 1, rfl, by have := HI.out; omega, by have := HI.out; omega, HOy.out, HDvy.out, ((HS118.out).row 1 rfl (dvCells (.slice apy Y.pages.length cpy) Y (.slice auy Y.unread.length cuy) (.slice afy Y.faults.length cfy))).pull [0, 1, 4] rfl (pull_nd ((HS118.out).row 1 rfl (dvCells (.slice apy Y.pages.length cpy) Y (.slice auy Y.unread.length cuy) (.slice afy Y.faults.length cfy))).nd [0, 1, 4] rfl (by decide))⟩
                case measure => simp [intOf]; have := HI.out; omega
              · have hcb : (cY == 0) = false := by rw [beq_eq_false_iff_ne]; exact hc0
                clear hc0
                go_wp2_with fail
                go_roundw
                case rel => exact ⟨d1, _, _, _, _, i - 1, rfl, by have := HI.out; omega, by have := HI.out; omega, HOk.out, HDa.out, (HS117.out).pull [0, 1, 2] rfl (pull_nd (HS117.out).nd [0, 1, 2] rfl (by decide))⟩
                case measure => simp [intOf]; have := HI.out; omega
    · have hid0 : decide (0 < i) = false := decide_eq_false hi0
      have hii : ¬ 0 < i := hi0
      clear hi0
      go_wp2_with (first | ((with_reducible refine wpList_load_ob 27 (.tmp 3) B1 (dvCells (.slice apa d.pages.length cpa) d (.slice aua d.unread.length cua) (.slice afa d.faults.length cfa)) 27 HUD.out ?_ ?_ ?_ ?_ ?_); (exact rfl); (exact (HQ.out).get 1 rfl); (exact rfl); (exact info_dv); simp only [Act.put, List.setIfInBounds_toArray, List.set_cons_zero, List.set_cons_succ]) | ((with_reducible refine wpList_store_ob 27 (.tmp 2) (w.heap.size) (dvCells (.slice apa d.pages.length cpa) d (.slice aua d.unread.length cua) (.slice afa d.faults.length cfa)) (dvCells nilS dvNil nilS nilS) 27 ?_ ?_ ?_ ?_ ?_ ?_ ?_); (exact rfl); (exact rfl); (exact (HQ.out).get 0 rfl); (exact info_dv); (exact rfl); (exact (oneCell_dv _ _ _ _ _ _ _ _ _ _)); skip))
      have HS161 : Hid (DrH w C [.ob (w.heap.size) 27 (dvCells (.slice apa d.pages.length cpa) d (.slice aua d.unread.length cua) (.slice afa d.faults.length cfa)), .ob B1 27 (dvCells (.slice apa d.pages.length cpa) d (.slice aua d.unread.length cua) (.slice afa d.faults.length cfa)), .rd R] (wr.setRow (w.heap.size) (dvCells (.slice apa d.pages.length cpa) d (.slice aua d.unread.length cua) (.slice afa d.faults.length cfa)).toArray)) := (HQ.out).row 0 rfl (dvCells (.slice apa d.pages.length cpa) d (.slice aua d.unread.length cua) (.slice afa d.faults.length cfa))
      clear HQ
      generalize (wr.setRow (w.heap.size) (dvCells (.slice apa d.pages.length cpa) d (.slice aua d.unread.length cua) (.slice afa d.faults.length cfa)).toArray) = w161 at *
      refine bodyPost_ret (results_ob Try.results12 _ _ w.heap.size (dvCells (.slice apa d.pages.length cpa) d (.slice aua d.unread.length cua) (.slice afa d.faults.length cfa)) 27 _ rfl ((HS161.out).get 0 rfl) HUD.out rfl info_dv) rfl ?_
      exact ⟨d, _, _, _, R, rfl, HOk.out, HDa.out, (HS161.out).reads 2 rfl, fun r hr => (HS161.out).off _ (List.mem_of_getElem? (i := 2) rfl) _ (List.mem_map.2 ⟨r, hr, rfl⟩), (HS161.out).bes, (HS161.out).codes⟩
end Go.Proofs.Ythcjkbhkidijoaa
