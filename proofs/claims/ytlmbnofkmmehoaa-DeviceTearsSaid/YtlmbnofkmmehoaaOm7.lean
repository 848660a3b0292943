/- texts of a claim, one after the other: the library's Insert of one number, where there is no room, what is kept of memory beside a rest that is not looked at; slices of one's own that a callee writes in place, the program's put, the program's fate: what becomes of a write, the program's carryOut, the program's strike: a byte rots -/
import Derived.Test.YtlmbnofkmmehoaaOm6
import Derived.Lib.ConvBytes
/- the library's Insert of one number, where there is no room -/
namespace Go.Proofs.Ytlmbnofkmmehoaa
open Go.RowKit
set_option maxRecDepth 20000
set_option linter.unusedSimpArgs false
set_option linter.unusedVariables false

theorem zero_len (n : Nat) : (Builtin.zeroCells #[Value.int .i64 0] n).toList.length = n := by simp [Builtin.zeroCells]
theorem ins_rows2 (l : List Int) (i : Nat) (t : Int) (Z1 Z2 : List Value) (hil : i < l.length) (hZ : Z1.length = l.length + 1 - i) :
    splice (splice (encRow encI (l.take i) ++ (Z1 ++ Z2)) i (encRow encI [t])) (i + 1) (encRow encI (l.drop i)) = encRow encI (insI l i t) ++ Z2 := by
  have lA : (encRow encI (l.take i)).length = i := by rw [encRow_len encI_len, List.length_take, Nat.mul_one, Nat.min_eq_left (by omega)]
  have lD : (encRow encI (l.drop i)).length = l.length - i := by rw [encRow_len encI_len, List.length_drop, Nat.mul_one]
  cases Z1 with
  | nil => simp at hZ; omega
  | cons z0 Z1 =>
    rw [List.length_cons] at hZ
    have e1 : encRow encI (l.take i) ++ ((z0 :: Z1) ++ Z2) = encRow encI (l.take i) ++ ([z0] ++ (Z1 ++ Z2)) := by simp
    rw [e1, splice_mid (by rfl) lA]
    have e2 : encRow encI (l.take i) ++ (encRow encI [t] ++ (Z1 ++ Z2)) = (encRow encI (l.take i) ++ encRow encI [t]) ++ (Z1 ++ Z2) := by simp
    rw [e2, splice_mid (by rw [lD]; omega) (by rw [List.length_append, lA]; rfl)]
    unfold insI
    rw [encRow_append]
    show (encRow encI (l.take i) ++ (encI t ++ [])) ++ (encRow encI (l.drop i) ++ Z2) = (encRow encI (l.take i) ++ (encI t ++ encRow encI (l.drop i))) ++ Z2
    simp
set_option maxHeartbeats 8000000 in
theorem insert_grow (l : List Int) (t : Int) (i g cap vb : Nat) (rest : List Value) (B0 : Nat) (w : World) (hil : i < l.length) (hB0 : B0 ≤ w.heap.size) (hg : w.heap[g]? = some (.cells (encRow encI l ++ rest).toArray 3 (0, 0))) (hcap : cap = l.length)
    (hvb : w.heap[vb]? = some (.cells #[.int .i64 t] 3 (0, 0))) (hl : l.length ≤ 1000) :
    Calls Try.prog 64 #[.slice (some ⟨g, 0, none⟩) l.length cap, .int .i64 i, .slice (some ⟨vb, 0, none⟩) 1 1] w (InsPost B0 w (.slice (some ⟨g, 0, none⟩) l.length cap) (insI l i t)) := by
  subst hcap
  obtain ⟨i0, hi0, hz0, hzs, hzb⟩ := info_of info_int
  have lA : (encRow encI (l.take i)).length = i := by rw [encRow_len encI_len, List.length_take, Nat.mul_one, Nat.min_eq_left (by omega)]
  have lD : (encRow encI (l.drop i)).length = l.length - i := by rw [encRow_len encI_len, List.length_drop, Nat.mul_one]
  have e2 : encRow encI l = encRow encI (l.take i) ++ encRow encI (l.drop i) := by rw [← encRow_append, List.take_append_drop]
  have hold : (Builtin.firstCells i0.size i (.slice (some ⟨g, 0, none⟩) i l.length)).run Try.prog w.drew = .ok (encRow encI (l.take i)).toArray w.drew := by
    rw [hzs]
    exact run_firstCells_some w.drew 1 i ⟨g, 0, none⟩ i l.length (encRow encI (l.take i)) (by rw [lA]; omega) (row_src (W := w.drew) hg 0 (fun j v hj => by
      rw [Nat.zero_add, e2, List.append_assoc, List.getElem?_append_left (List.getElem?_eq_some_iff.1 hj).1]
      exact hj))
  obtain ⟨G, hG⟩ : ∃ G, G = grownCap w (l.length + 1) l.length 3 := ⟨_, rfl⟩
  have hGn : l.length + 1 ≤ G := by rw [hG]; exact grownCap_ge w _ _ _
  have hGm : G ≤ maxLen := by rw [hG]; exact grownCap_le_maxLen w _ _ _ (by unfold maxLen; omega)
  obtain ⟨Z1, hZ1⟩ : ∃ Z1, Z1 = (Builtin.zeroCells #[Value.int .i64 0] (l.length + 1 - i)).toList := ⟨_, rfl⟩
  obtain ⟨Z2, hZ2⟩ : ∃ Z2, Z2 = (Builtin.zeroCells #[Value.int .i64 0] (G - (l.length + 1))).toList := ⟨_, rfl⟩
  have hl1 : Z1.length = l.length + 1 - i := by rw [hZ1, zero_len]
  have hl2 : Z2.length = G - (l.length + 1) := by rw [hZ2, zero_len]
  have hr : (Builtin.append_ #[24, 3] 24 #[.slice (some ⟨g, 0, none⟩) i l.length, .int .i64 ((l.length : Int) + 1 - (i : Int))]).run Try.prog w =
      .ok (.slice (some ⟨w.heap.size, 0, none⟩) (l.length + 1) G) (w.drew.alloc (.cells (encRow encI (l.take i) ++ (Z1 ++ Z2)).toArray 3)) := by
    have h := Lib.run_append_grow_zeros (P := Try.prog) w 24 3 24 3 i0 _ .i64 .i64 Try.underlying24 Try.underlying3 hi0 hz0 (some ⟨g, 0, none⟩) i l.length (encRow encI (l.take i)) hold (l.length + 1 - i) (by omega) (by omega) (by omega) (by omega) (by rw [hzb]; omega) (by
      rw [hzb, show i + (l.length + 1 - i) = l.length + 1 from by omega]
      exact growslice_fits (by omega) (by omega))
    rw [show i + (l.length + 1 - i) = l.length + 1 from by omega, ← hG] at h
    rw [show (l.length : Int) + 1 - (i : Int) = ((l.length + 1 - i : Nat) : Int) from by omega, h]
    congr 3
    rw [hZ1, hZ2]
    apply Array.toList_inj.1
    simp [Value.cells]
  have hgw := (Array.getElem?_eq_some_iff.1 hg).1
  have hvw := (Array.getElem?_eq_some_iff.1 hvb).1
  have HIns := Lib.hid (ins_rows2 l i t Z1 Z2 hil hl1)
  obtain ⟨w1, hw1⟩ : ∃ w1, w1 = w.drew.alloc (.cells (encRow encI (l.take i) ++ (Z1 ++ Z2)).toArray 3) := ⟨_, rfl⟩
  rw [← hw1] at hr
  have HG1 : Hid (w1.heap[w.heap.size]? = some (.cells (encRow encI (l.take i) ++ (Z1 ++ Z2)).toArray 3 (0, 0))) := by
    show _ = _
    rw [hw1]
    exact heap_alloc_last w.drew _
  have HB1 : Hid (w.grownBy w1 none ∧ w1.heap.size = w.heap.size + 1) := by
    rw [hw1]
    exact ⟨⟨rfl, rfl, rfl, by simp, fun k hk _ => by
      show (w.heap.push _)[k]? = _
      rw [Array.getElem?_push, if_neg (by omega)]⟩, by simp⟩
  have HV1 : Hid (w1.cell? ⟨vb, 0, none⟩ = some (.int .i64 t)) := by
    show _ = _
    rw [cell_of_row w1 vb 0 _ _ _ ((HB1.out.1.block vb hvw (by simp)).trans hvb)]
    rfl
  have HGg : Hid (w1.heap[g]? = some (.cells (encRow encI l ++ rest).toArray 3 (0, 0)) ∧ g ≠ w.heap.size) := ⟨(HB1.out.1.block g hgw (by simp)).trans hg, by omega⟩
  have hlR : (encRow encI (l.take i) ++ (Z1 ++ Z2)).length = G := by
    rw [List.length_append, List.length_append, lA, hl1, hl2]; omega
  have H5 : Hid (i + (encRow encI [t]).length ≤ (encRow encI (l.take i) ++ (Z1 ++ Z2)).length) := by
    show i + 1 ≤ _
    rw [hlR]; omega
  have H6 : Hid ((encRow encI [t]).length = Nat.min 1 (l.length + 1 - i)) := by
    show (1 : Nat) = _
    simp only [Nat.min_def]
    split <;> omega
  have hlS : (splice (encRow encI (l.take i) ++ (Z1 ++ Z2)) i (encRow encI [t])).length = G := by rw [length_splice _ _ _ H5.out, hlR]
  have H1 : Hid ((encRow encI (l.drop i)).length = Nat.min (l.length - i) (l.length - i)) := by show _ = _; rw [lD]; simp only [Nat.min_def]; split <;> omega
  have H3 : Hid ((i + 1) + (encRow encI (l.drop i)).length ≤ (splice (encRow encI (l.take i) ++ (Z1 ++ Z2)) i (encRow encI [t])).length) := by
    show _ ≤ _
    rw [hlS, lD]; omega
  have H4 : Hid (∀ v ∈ encRow encI (l.drop i), v.oneCell' = true) := fun v hv => by
    obtain ⟨y, _, hy⟩ := List.mem_flatMap.1 hv
    exact one_intl y v hy
  have HSrc : Hid (∀ W : World, W.heap[g]? = some (.cells (encRow encI l ++ rest).toArray 3 (0, 0)) → ∀ j v, (encRow encI (l.drop i))[j]? = some v → W.cell? ((⟨g, i, none⟩ : Addr).add j) = some v) := fun W hW => row_src hW i (fun j v hj => by
    rw [e2, List.append_assoc, List.getElem?_append_right (by omega), lA, Nat.add_sub_cancel_left, List.getElem?_append_left (List.getElem?_eq_some_iff.1 hj).1]
    exact hj)
  have HL5 : Hid ((encRow encI (insI l i t ++ []) ++ Z2).length = G * 1) := by
    show _ = _
    rw [List.append_nil, List.length_append, encRow_len encI_len, insI_len, hl2]
    omega
  have HN : Hid (i < l.length ∧ l.length ≤ 1000 ∧ l.length + 1 ≤ G ∧ G ≤ maxLen ∧ B0 ≤ w.heap.size) := ⟨hil, hl, hGn, hGm, hB0⟩
  have hz2 : ((i : Int) == (l.length : Int)) = false := by rw [beq_eq_false_iff_ne]; omega
  have hi00 : (0 : Int) ≤ (i : Int) := by omega
  have hi01 : (0 : Int) ≤ (i : Int) + 1 := by omega
  have hin : (i : Int) ≤ (l.length : Int) := by omega
  have hlm : (l.length : Int) < 1001 := by omega
  have hGi : (G : Int) ≤ 9223372036854775807 := by unfold maxLen at hGm; omega
  have hc3 : ¬ l.length = i := by omega
  have hc4 : ¬ G = i + 1 := by omega
  have hc5 : ¬ G = i := by omega
  have hin1 : (i : Int) + 1 ≤ (l.length : Int) + 1 := by omega
  have hin2 : (i : Int) ≤ (l.length : Int) + 1 := by omega
  have hlt1 : (l.length : Int) < (l.length : Int) + 1 := by omega
  have hw1' : IntKind.i64.wrap ((l.length : Int) + 1) = (l.length : Int) + 1 := by rw [IntKind.wrap_i64]; omega
  have hw2 : IntKind.i64.wrap ((i : Int) + 1) = (i : Int) + 1 := by rw [IntKind.wrap_i64]; omega
  have hw3 : IntKind.i64.wrap ((l.length : Int) + 1 - (i : Int)) = (l.length : Int) + 1 - (i : Int) := by rw [IntKind.wrap_i64]; omega
  clear hil hB0 hg hvb hl lA lD e2 hold hG hGn hGm hZ1 hZ2 hl1 hl2 hlR hlS hgw hvw hw1 hi0 hz0 hzs hzb
  go_enter Try.func64, Try.ntmps64
  go_wp2_with (first
    | (at_builtin; refine Lib.wpList_append_run _ rfl (.tmp 34) (.tmp 39) _ _ rfl _ _ rfl rfl _ _ hr ?_)
    | ((with_reducible refine wpList_copy_row rfl (.tmp 43) (.tmp 44) 24 24 rfl 3 Try.underlying24 info_int1 w.heap.size i (l.length + 1 - i) (G - i) ⟨vb, 0, none⟩ 1 1 ?_ ?_ (encRow encI (l.take i) ++ (Z1 ++ Z2)) 3 HG1.out (encRow encI [t]) H6.out ?_ H5.out ?_ ?_); (exact rfl); (exact rfl); (exact one_src HV1.out); (exact one_i t)))
  intro w4 hw4
  have HG4 : Hid (w4.drew.heap[w.heap.size]? = some (.cells (splice (encRow encI (l.take i) ++ (Z1 ++ Z2)) i (encRow encI [t])).toArray 3 (0, 0))) := by
    show w4.heap[w.heap.size]? = _
    rw [hw4.out]
    exact setRow_heap _ _ _ _ _ _ HG1.out
  have HS4 : Hid (∀ j v, (encRow encI (l.drop i))[j]? = some v → w4.drew.cell? ((⟨g, i, none⟩ : Addr).add j) = some v) := HSrc.out w4.drew (by
    show w4.heap[g]? = _
    rw [hw4.out, setRow_other _ _ _ _ HGg.out.2]
    exact HGg.out.1)
  have HB4 : Hid (w.grownBy w4 none) := by
    show World.grownBy _ _ _
    rw [hw4.out]
    exact ⟨HB1.out.1.os, HB1.out.1.tape, HB1.out.1.output, by simp [World.setRow]; have := HB1.out.2; omega, fun k hk _ => by
      rw [setRow_other _ _ _ _ (by omega)]
      exact HB1.out.1.block k hk (by simp)⟩
  clear hw4 HSrc HGg HV1 HG1 hr
  go_wp2_with fail
  go_region_law (refine step_copy_row rfl (.tmp 50) (.tmp 53) 24 24 rfl 3 Try.underlying24 info_int1 w.heap.size (i + 1) (l.length - i) (G - (i + 1)) ⟨g, i, none⟩ (l.length - i) (l.length - i) (by simp [Act.eval, Act.put]) (by simp [Act.eval, Act.put]) (splice (encRow encI (l.take i) ++ (Z1 ++ Z2)) i (encRow encI [t])) 3 HG4.out (encRow encI (l.drop i)) H1.out HS4.out H3.out H4.out ?_; intro w5 hw5)
  have HG5 : Hid (w5.heap[w.heap.size]? = some (.cells (encRow encI (insI l i t) ++ Z2).toArray 3 (0, 0))) := by
    show _ = _
    rw [hw5.out, HIns.out]
    exact setRow_heap _ _ _ _ _ _ HG4.out
  have HB5 : Hid (w.grownBy w5 (some g)) := by
    show World.grownBy _ _ _
    rw [hw5.out]
    exact ⟨HB4.out.os, HB4.out.tape, HB4.out.output, by simp [World.setRow]; exact HB4.out.size, fun k hk _ => by
      rw [setRow_other _ _ _ _ (by omega)]
      exact HB4.out.block k hk (by simp)⟩
  clear hw5
  go_wp2_with fail
  go_ret
  have hlen5 := insI_len l i t
  refine ⟨_, rfl, ?_, HB5.out, .inr rfl⟩
  rw [intRow_enc]
  have h := own_close (m := []) encI_len HN.out.2.2.2.2 (by rw [List.append_nil]; exact HG5.out) (by rw [hlen5]; exact HN.out.2.2.1) HN.out.2.2.2.1 HL5.out
  rw [hlen5] at h ⊢
  exact h
/-- an insertion into a slice of the walk's own -/
theorem insert_own (l : List Int) (t : Int) (i : Nat) (v : Value) (B0 vb : Nat) (w : World) (hi : i ≤ l.length) (own : w.ownsRow B0 3 1 v l.length (intRow l)) (hvb : w.heap[vb]? = some (.cells #[.int .i64 t] 3 (0, 0))) (hne : v.ownBlock ≠ some vb) (hB0 : B0 ≤ w.heap.size) (hl : l.length ≤ 1000) :
    Calls Try.prog 64 #[v, .int .i64 i, .slice (some ⟨vb, 0, none⟩) 1 1] w (InsPost B0 w v (insI l i t)) := by
  rcases Nat.lt_or_eq_of_le hi with h | h
  · rw [intRow_enc] at own
    rcases own_open encI_len own rfl (by decide) with ⟨_, rfl⟩ | ⟨g, cap, rest, rfl, hB, hg, h1, h2, h3⟩
    · simp at h
    · cases rest with
      | nil =>
        rw [List.append_nil, encRow_len encI_len] at h3
        exact insert_grow l t i g cap vb [] B0 w h hB0 hg (by omega) hvb hl
      | cons x rest => exact insert_room l t i g cap vb rest x B0 w h hB hg (by rw [h3, Nat.mul_one]) h2 hvb (fun e => hne (by rw [e]; rfl)) hl
  · subst h
    have := insert_end l t v B0 vb w own (by rw [cell_of_row w vb 0 _ _ _ hvb]; rfl) hB0 hl
    have e : insI l l.length t = l ++ [t] := by unfold insI; rw [List.take_length, List.drop_length]
    rw [e]
    exact this
end Go.Proofs.Ytlmbnofkmmehoaa
/- what is kept of memory beside a rest that is not looked at; slices of one's own that a callee writes in place -/
namespace Go.Proofs.Ytlmbnofkmmehoaa
open Go.RowKit
set_option maxRecDepth 20000
set_option linter.unusedSimpArgs false
set_option linter.unusedVariables false

theorem Hp.perm {w W : World} {L M : List Th} (h : Hp w L W) (p : L.Perm M) : Hp w M W := ⟨h.old, fun x hx => h.all x (p.mem_iff.2 hx), (p.pairwise_iff (fun h => h.symm)).1 h.nd⟩
theorem Hp.sub {w W : World} {L M : List Th} (h : Hp w L W) (s : M.Sublist L) : Hp w M W := ⟨h.old, fun x hx => h.all x (s.subset hx), h.nd.sublist s⟩
/-- an object is made, and stands where it is asked for -/
theorem Hp.ins {w W : World} (L1 : List Th) {L2 : List Th} (h : Hp w (L1 ++ L2) W) (t : TypeId) (cs : List Value) : Hp w (L1 ++ (.ob W.heap.size t cs :: L2)) (W.alloc (.cells cs.toArray t)) :=
  (h.put t cs).perm (by
    rw [List.append_assoc]
    exact List.Perm.append_left _ List.perm_append_comm)
/-- a thing is not looked at any more -/
theorem Hp.del {w W : World} (L1 : List Th) {x : Th} {L2 : List Th} (h : Hp w (L1 ++ (x :: L2)) W) : Hp w (L1 ++ L2) W := h.sub (List.Sublist.append (List.Sublist.refl _) (List.sublist_cons_self _ _))
/-- one cell of a slice of its own is written -/
theorem Hp.slset {w W : World} {L : List Th} (h : Hp w L W) (i : Nat) {g n c : Nat} {t : TypeId} {xs : List Value} (e : L[i]? = some (.sl (.slice (some ⟨g, 0, none⟩) n c) t 1 n xs)) (k : Nat) (hk : k < n) (u : Value) :
    Hp w (L.set i (.sl (.slice (some ⟨g, 0, none⟩) n c) t 1 n (xs.set k u))) (W.setCell ⟨g, k, none⟩ u) := by
  refine h.swap i e _ ?_ (fun b hb => .inl hb) rfl (fun j hj hne => Below.heap_setCell _ _ _ _ (fun e => hne (by rw [e]; rfl))) rfl rfl rfl (by simp [World.setCell])
  have ho := h.own i e
  refine ⟨by rw [List.length_set]; exact ho.1, ?_⟩
  rcases ho.2 with ⟨h0, _⟩ | ⟨g', cap, cur, hv, hB, hg, h1, h2, h3, h4⟩
  · cases h0
  · have e1 : g' = g := by have := congrArg Value.ownBlock hv; simpa [Value.ownBlock] using this.symm
    have e2 : cap = c := by injection hv with _ _ h; exact h.symm
    subst e1 e2
    refine .inr ⟨g', cap, cur.setIfInBounds k u, rfl, hB, heap_setCell_same W g' k _ _ u hg, h1, h2, by simpa using h3, ?_⟩
    rw [Array.toList_setIfInBounds, ← h4, List.take_set]
theorem Hp.slcell {w W : World} {L : List Th} (h : Hp w L W) (i : Nat) {g n c : Nat} {t : TypeId} {xs : List Value} (e : L[i]? = some (.sl (.slice (some ⟨g, 0, none⟩) n c) t 1 n xs)) (k : Nat) {u : Value} (hk : xs[k]? = some u) : W.cell? ⟨g, k, none⟩ = some u ∧ W.frozen? ⟨g, k, none⟩ = false := by
  have ho := h.own i e
  have hr := own_range ho rfl k [u] (fun j v hj => by
    have hj0 := (List.getElem?_eq_some_iff.1 hj).1
    have : j = 0 := by simp only [List.length_cons, List.length_nil] at hj0; omega
    subst this
    rw [Nat.add_zero, hk]
    simpa using hj)
  refine ⟨hr 0 u rfl, ?_⟩
  rcases ho.2 with ⟨h0, _⟩ | ⟨g', cap, cur, hv, hB, hg, _⟩
  · cases h0
  · have e1 : g' = g := by have := congrArg Value.ownBlock hv; simpa [Value.ownBlock] using this.symm
    subst e1
    exact frozen_of_row _ _ _ _ _ hg
set_option maxHeartbeats 4000000 in
theorem delInt_own (n : Int) (B : Nat) (l : List Int) (v : Value) (B0 : Nat) (w : World) (own : w.ownsRow B0 3 1 v l.length (intRow l)) (hBv : v.ownBlock ≠ some B) (hc : w.cell? ⟨B, 0, none⟩ = some (.int .i64 n)) (hl : l.length ≤ 1000) :
    Calls Try.prog 71 #[v, .func (.func 72) #[] #[.pointer (some ⟨B, 0, none⟩)]] w fun e w' => ∃ v', e = .returned v' ∧ w'.ownsRow B0 3 1 v' (withoutR l n).length (intRow (withoutR l n)) ∧ w.grownBy w' v.ownBlock ∧ v'.ownBlock = v.ownBlock := by
  have own' := own
  rw [intRow_enc] at own'
  rcases own_open encI_len own' rfl (by decide) with ⟨rfl, rfl⟩ | ⟨g, cap, rest, rfl, hB, hg, h1, h2, h3⟩
  · have hIx := idxInt_any n B [] (.slice none 0 0) [] w (World.block_lt_of_cell? w _ hc) hc (SlRd.nil 1 []) (RdIn.nil w) (by simp)
    have e0 : idxR (fun x => decide (x = n)) ([] : List Int) = -1 := idxR_none rfl
    rw [e0] at hIx
    have HX := Lib.hid own
    clear own own' hc hBv hl e0
    go_enter Try.func71, Try.ntmps71
    go_wp2_with fail
    refine hIx.mono ?_
    rintro e w2 ⟨rfl, hb⟩
    clear hIx
    have HB := Lib.hid hb
    clear hb
    go_wp2_with fail
    go_ret
    exact ⟨_, rfl, ⟨by simp [withoutR, intRow], .inl ⟨rfl, by simp [withoutR]⟩⟩, grown_below HB.out, rfl⟩
  · have hne : B ≠ g := fun e => hBv (by rw [e]; rfl)
    refine (delInt_row n B l g cap rest w hne hc hl h1 h2 hg).mono ?_
    rintro e w2 ⟨rfl, ⟨m, hm1, hm2⟩, hgr⟩
    refine ⟨_, rfl, ?_, hgr, rfl⟩
    rw [intRow_enc]
    refine own_close encI_len hB hm2 (Nat.le_trans (List.length_filter_le _ _) h1) h2 ?_
    rw [List.length_append, encRow_len encI_len, hm1]
    rw [List.length_append, encRow_len encI_len] at h3
    exact h3
set_option maxHeartbeats 4000000 in
theorem delFlt_own (gn : Nat) (lb : Array Value) (q : Flt → Bool) (l : List Flt) (v : Value) (B0 : Nat) (w : World) (eg : EntersF gn) (own : w.ownsRow B0 29 6 v l.length (fltRow l)) (hp : FltFnX gn lb q l v.ownBlock w) (hl : l.length ≤ 1000) :
    Calls Try.prog 40 #[v, .func (.func gn) #[] lb] w fun e w' => ∃ v', e = .returned v' ∧ w'.ownsRow B0 29 6 v' (l.filter fun x => !q x).length (fltRow (l.filter fun x => !q x)) ∧ w.grownBy w' v.ownBlock ∧ v'.ownBlock = v.ownBlock := by
  have own' := own
  rw [fltRow_enc] at own'
  rcases own_open fltCells_len own' rfl (by decide) with ⟨rfl, rfl⟩ | ⟨g, cap, rest, rfl, hB, hg, h1, h2, h3⟩
  · have hIx := idxFlt_any gn lb q [] (.slice none 0 0) [] w eg (fun W x hx => by cases hx) (SlRd.nil 6 []) (RdIn.nil w) (by simp)
    have e0 : idxR q ([] : List Flt) = -1 := idxR_none rfl
    rw [e0] at hIx
    clear own own' hp hl e0
    go_enter Try.func40, Try.ntmps40
    go_wp2_with fail
    refine hIx.mono ?_
    rintro e w2 ⟨rfl, hb⟩
    clear hIx
    have HB := Lib.hid hb
    clear hb
    go_wp2_with fail
    go_ret
    exact ⟨_, rfl, ⟨by simp [fltRow], .inl ⟨rfl, by simp⟩⟩, grown_below HB.out, rfl⟩
  · refine (delFlt_row gn lb q l g cap rest w eg hp hl h1 h2 hg).mono ?_
    rintro e w2 ⟨rfl, ⟨m, hm1, hm2⟩, hgr⟩
    refine ⟨_, rfl, ?_, hgr, rfl⟩
    rw [fltRow_enc]
    refine own_close fltCells_len hB hm2 (Nat.le_trans (List.length_filter_le _ _) h1) h2 ?_
    rw [List.length_append, encRow_len fltCells_len, hm1]
    rw [List.length_append, encRow_len fltCells_len] at h3
    exact h3
end Go.Proofs.Ytlmbnofkmmehoaa
/- the program's put -/
namespace Go.Proofs.Ytlmbnofkmmehoaa
open Go.RowKit
set_option maxRecDepth 20000
set_option linter.unusedSimpArgs false
set_option linter.unusedVariables false

def dputR (d : Dv) (k : Nat) (s : ByteArray) : Dv := ⟨d.pages.set k (s ++ (d.pages.getD k ⟨#[]⟩).extract s.size 256), d.writes, withoutR d.unread k, d.dead, d.faults⟩
/-- a device that a walk has: its variable, and its pages and unreadable ones in memory of the walk's own -/
abbrev DvTh (b : Nat) (p u f : Value) (d : Dv) (M : List Th) : List Th := .ob b 27 (dvCells p d u f) :: .sl p 9 1 d.pages.length (strRow d.pages) :: .sl u 3 1 d.unread.length (intRow d.unread) :: M
theorem strRow_set (l : List ByteArray) (k : Nat) (y : ByteArray) : (strRow l).set k (.string y) = strRow (l.set k y) := by unfold strRow; rw [List.map_set]
set_option maxHeartbeats 8000000 in
theorem put_any {w0 W : World} {M : List Th} {b : Nat} {p u f : Value} {d : Dv} (s : ByteArray) (k : Nat) (h : Hp w0 (DvTh b p u f d M) W) (hk : k < d.pages.length) (hold : ∀ s ∈ d.pages, s.size = 256) (hs : s.size ≤ 256) (hu : d.unread.length ≤ 1000) (hp : d.pages.length ≤ 1000) :
    Calls Try.prog 55 #[.pointer (some ⟨b, 0, none⟩), .int .i64 k, .string s] W fun e W' => e = .returned (.tuple #[]) ∧ ∃ u', Hp w0 (DvTh b p u' f (dputR d k s) M) W' := by
  have hpo := h.own 1 rfl
  rcases hpo.2 with ⟨_, h0⟩ | ⟨g, cap, cur, rfl, hB, hg, h1, h2, h3, h4⟩
  · omega
  obtain ⟨a, c, rfl⟩ := own_slice (h.own 2 rfl)
  obtain ⟨y, hy⟩ : ∃ y, d.pages[k] = y := ⟨_, rfl⟩
  have hys : y.size = 256 := by rw [← hy]; exact hold _ (List.getElem_mem hk)
  have hyD : d.pages.getD k ⟨#[]⟩ = y := by rw [List.getD_eq_getElem?_getD, List.getElem?_eq_getElem hk]; exact hy
  have HP : Hid (dputR d k s = ⟨d.pages.set k (s ++ y.extract s.size 256), d.writes, withoutR d.unread k, d.dead, d.faults⟩) := by show _ = _; unfold dputR; rw [hyD]
  have HS0 : Hid (Hp w0 (.ob b 27 (dvCells (.slice (some ⟨g, 0, none⟩) d.pages.length cap) d (.slice a d.unread.length c) f) :: .sl (.slice (some ⟨g, 0, none⟩) d.pages.length cap) 9 1 d.pages.length (strRow d.pages) :: .sl (.slice a d.unread.length c) 3 1 d.unread.length (intRow d.unread) :: .ob W.heap.size 3 [.int .i64 k] :: M) (W.alloc (.cells #[.int .i64 k] 3))) := h.ins [_, _, _] 3 [.int .i64 k]
  have HPat : Hid ((strRow d.pages)[k]? = some (.string y)) := by show _ = _; rw [strRow_at d.pages k hk, hy]
  have HU := Lib.hid hu
  have HKl := Lib.hid hk
  have hcell := (HS0.out.drew.slcell 1 rfl k HPat.out).1
  have hfz := (HS0.out.drew.slcell 1 rfl k HPat.out).2
  have b0 := HS0.out.drew.at 0 rfl 0 rfl
  have b2 := HS0.out.drew.at 0 rfl 2 rfl
  have bx := HS0.out.drew.at 3 rfl 0 rfl
  have hk0 : (0 : Int) ≤ (k : Int) := by omega
  have hkn : (k : Int) < (d.pages.length : Int) := by omega
  have hss : (s.size : Int) ≤ 256 := by omega
  have hs0 : (0 : Int) ≤ (s.size : Int) := by omega
  have hsy : (y.size : Int) = 256 := by omega
  clear h hk hold hs hu hpo hB hg h1 h2 h3 h4 hy hyD hp
  go_enter Try.func55, Try.ntmps55
  go_wp2_with fail
  go_region
  clear b0 b2 bx hcell hfz hk0 hkn hss hs0 hsy
  have HS1 : Hid (Hp w0 (.ob b 27 (dvCells (.slice (some ⟨g, 0, none⟩) d.pages.length cap) d (.slice a d.unread.length c) f) :: .sl (.slice (some ⟨g, 0, none⟩) d.pages.length cap) 9 1 d.pages.length (strRow (d.pages.set k (s ++ y.extract s.size 256))) :: .sl (.slice a d.unread.length c) 3 1 d.unread.length (intRow d.unread) :: .ob W.heap.size 3 [.int .i64 k] :: M) (((W.alloc (.cells #[.int .i64 k] 3)).setCell ⟨g, k, none⟩ (.string (s ++ y.extract s.size 256))).drew)) := by
    have h := (HS0.out.slset 1 rfl k HKl.out (.string (s ++ y.extract s.size 256))).drew
    rw [strRow_set] at h
    exact h
  clear HS0
  generalize ((W.alloc (.cells #[.int .i64 k] 3)).setCell ⟨g, k, none⟩ (.string (s ++ y.extract s.size 256))).drew = w1 at *
  generalize W.heap.size = bx at *
  have b2 := HS1.out.at 0 rfl 2 rfl
  have hcall := delInt_own (k : Int) bx d.unread _ _ w1 (HS1.out.own 2 rfl) (fun e => HS1.out.ne 2 3 rfl rfl (by decide) e rfl rfl) (HS1.out.at 3 rfl 0 rfl) HU.out
  go_wp2_with fail
  refine hcall.mono ?_
  rintro e w2 ⟨u', rfl, ho, hgr, hbl⟩
  have HS2 := Lib.hid (HS1.out.grown 2 rfl ho hgr (.inl hbl))
  clear hcall ho hgr hbl b2
  obtain ⟨a', c', rfl⟩ := own_slice (HS2.out.own 2 rfl)
  have b2 := HS2.out.at 0 rfl 2 rfl
  have f2 := HS2.out.frozen 0 rfl 2
  have HS3 := Lib.hid (HS2.out.set 0 rfl 2 (.slice a' (withoutR d.unread k).length c'))
  clear HS1 HS2
  go_wp2_with fail
  refine bodyPost_end (v := .tuple #[]) (by simp [results, Try.results55, go_sem]) rfl ⟨rfl, .slice a' (withoutR d.unread k).length c', ?_⟩
  rw [HP.out]
  have h := Hp.del [_, _, _] HS3.out
  show Hp w0 (.ob b _ _ :: .sl (.slice (some ⟨g, 0, none⟩) d.pages.length cap) _ 1 (d.pages.set k (s ++ y.extract s.size 256)).length _ :: _) _
  rw [List.length_set]
  exact h
end Go.Proofs.Ytlmbnofkmmehoaa
/- the program's fate: what becomes of a write -/
namespace Go.Proofs.Ytlmbnofkmmehoaa
open Go.RowKit
set_option maxRecDepth 20000
set_option linter.unusedSimpArgs false
set_option linter.unusedVariables false

def fateV : List Flt → Value
  | [] => .iface 88 (.agg #[])
  | f :: l => if f.kind = 1 then .iface 83 (.agg #[]) else if f.kind = 2 then .iface 85 (.agg #[.int .i64 f.target]) else if f.kind = 3 then .iface 87 (.agg #[.int .i64 f.byte]) else fateV l
theorem conc_lost : Try.prog.concrete 83 = true := by kernel_rfl
theorem conc_astray : Try.prog.concrete 85 = true := by kernel_rfl
theorem conc_torn : Try.prog.concrete 87 = true := by kernel_rfl
theorem conc_whole : Try.prog.concrete 88 = true := by kernel_rfl
theorem build_lost (W : World) : Sem.run Try.prog (Instr.build 83 #[]) W = .ok (.agg #[]) W := by kernel_rfl
theorem build_whole (W : World) : Sem.run Try.prog (Instr.build 88 #[]) W = .ok (.agg #[]) W := by kernel_rfl
theorem build_astray (n : Int) (W : World) : Sem.run Try.prog (Instr.build 85 #[(0, .int .i64 n)]) W = .ok (.agg #[.int .i64 n]) W := by kernel_rfl
theorem build_torn (n : Int) (W : World) : Sem.run Try.prog (Instr.build 87 #[(0, .int .i64 n)]) W = .ok (.agg #[.int .i64 n]) W := by kernel_rfl
set_option maxHeartbeats 8000000 in
theorem fate_any (l : List Flt) (v : Value) (R : List Rng) (w : World) (hv : SlRd v 6 l.length (fltRow l) R) (hR : RdIn w R) (hl : l.length ≤ 1000) :
    Calls Try.prog 45 #[v] w fun e w' => e = .returned (fateV l) ∧ Below w.heap.size w w' := by
  obtain ⟨a, cap, rfl, hnc, hcm, hg⟩ := hv.open hR
  obtain ⟨fs, huf⟩ := under_flt
  have HUF := Lib.hid huf
  have HL := Lib.hid hl
  have c1 := conc_lost
  have c2 := conc_astray
  have c3 := conc_torn
  have c4 := conc_whole
  have d1 := build_lost
  have d2 := build_astray
  have d3 := build_torn
  have d4 := build_whole
  clear hv hR hnc hcm hl huf
  go_enter Try.func45, Try.ntmps45
  go_wp2_with fail
  go_loopw [7] (fun i wr => ∃ k : Nat, k ≤ l.length ∧ i = .int .i64 k ∧ fateV (l.drop k) = fateV l ∧ Below w.heap.size w wr) (fun i _ => l.length - (intOf i).toNat)
  case atStart => exact ⟨0, by omega, rfl, rfl, Below.refl _ _⟩
  case round =>
    obtain ⟨k, hk, rfl, hh, hb⟩ := hrel
    have HB := Lib.hid hb
    have HH := Lib.hid hh
    clear hb hh
    by_cases hlt : k < l.length
    · obtain ⟨b, off, rfl, hr⟩ := hg.out (by omega)
      obtain ⟨x, hx⟩ : ∃ x, l[k] = x := ⟨_, rfl⟩
      have hcells : Hid (wr.rangeAt b (off + k * 6) (fltCells x)) := fun j u hj => by
        rw [Nat.add_assoc]
        exact hr wr HB.out (k * 6 + j) u (fltRow_at l k hlt j u (by rw [hx]; exact hj))
      have hki : (k : Int) < (l.length : Int) := by omega
      have hk0 : (0 : Int) ≤ (k : Int) := by omega
      have hkm : (k : Int) < 1001 := by have := HL.out; omega
      have HD : Hid (fateV l = if x.kind = 1 then .iface 83 (.agg #[]) else if x.kind = 2 then .iface 85 (.agg #[.int .i64 x.target]) else if x.kind = 3 then .iface 87 (.agg #[.int .i64 x.byte]) else fateV (l.drop (k + 1))) := by
        show _ = _
        rw [← HH.out, ← List.getElem_cons_drop hlt, hx]
        rfl
      have HW1 : Hid (Below w.heap.size w ((wr.alloc (.cells (fltCells fltNil).toArray 29)).setRow wr.heap.size (fltCells x).toArray)) := HB.out.trans ((below_setRow ((Below.refl wr.heap.size wr).alloc (Nat.le_refl _) _) (Nat.le_refl _) _).mono HB.out.size)
      have hrow : ((wr.alloc (.cells (fltCells fltNil).toArray 29)).setRow wr.heap.size (fltCells x).toArray).heap[wr.heap.size]? = some (.cells (fltCells x).toArray 29 (0, 0)) := setRow_heap _ _ _ _ _ _ (heap_alloc_last wr _)
      have e0 : ((wr.alloc (.cells (fltCells fltNil).toArray 29)).setRow wr.heap.size (fltCells x).toArray).cell? ⟨wr.heap.size, 0, none⟩ = some (.int .i64 x.kind) := by rw [cell_of_row _ _ 0 _ _ _ hrow]; rfl
      have e3 : ((wr.alloc (.cells (fltCells fltNil).toArray 29)).setRow wr.heap.size (fltCells x).toArray).cell? ⟨wr.heap.size, 3, none⟩ = some (.int .i64 x.target) := by rw [cell_of_row _ _ 3 _ _ _ hrow]; rfl
      have e4 : ((wr.alloc (.cells (fltCells fltNil).toArray 29)).setRow wr.heap.size (fltCells x).toArray).cell? ⟨wr.heap.size, 4, none⟩ = some (.int .i64 x.byte) := by rw [cell_of_row _ _ 4 _ _ _ hrow]; rfl
      clear hr hx hrow
      by_cases k1 : x.kind = 1
      · have q1 : (x.kind == 1) = true := by rw [k1]; rfl
        have HX : Hid (fateV l = .iface 83 (.agg #[])) := by show _ = _; rw [HD.out, if_pos k1]
        clear k1 HD
        go_wp2_with (first | ((with_reducible refine wpList_load_at 29 (.tmp 9) b (off + k * 6) (fltCells x) HUF.out ?_ ?_ ?_ ?_ ?_); (exact rfl); (exact hcells.out); (exact rfl); (exact info_flt); simp only [Act.put, List.setIfInBounds_toArray, List.set_cons_zero, List.set_cons_succ]) | ((with_reducible refine wpList_alloc_ob 29 (fltCells fltNil) ?_ ?_); (exact alloc_flt); simp only [Act.put, List.setIfInBounds_toArray, List.set_cons_zero, List.set_cons_succ]) | ((with_reducible refine wpList_store_ob 29 (.tmp 4) wr.heap.size (fltCells x) (fltCells fltNil) 29 ?_ ?_ ?_ ?_ ?_ ?_ ?_); (exact rfl); (exact rfl); (exact heap_alloc_last wr _); (exact info_flt); (exact rfl); (exact oneCell_flt _); skip))
        go_ret
        exact ⟨by rw [HX.out]; rfl, HW1.out⟩
      have q1 : (x.kind == 1) = false := by rw [beq_eq_false_iff_ne]; exact k1
      by_cases k2 : x.kind = 2
      · have q2 : (x.kind == 2) = true := by rw [k2]; rfl
        have HX : Hid (fateV l = .iface 85 (.agg #[.int .i64 x.target])) := by show _ = _; rw [HD.out, if_neg k1, if_pos k2]
        clear k1 k2 HD
        go_wp2_with (first | ((with_reducible refine wpList_load_at 29 (.tmp 9) b (off + k * 6) (fltCells x) HUF.out ?_ ?_ ?_ ?_ ?_); (exact rfl); (exact hcells.out); (exact rfl); (exact info_flt); simp only [Act.put, List.setIfInBounds_toArray, List.set_cons_zero, List.set_cons_succ]) | ((with_reducible refine wpList_alloc_ob 29 (fltCells fltNil) ?_ ?_); (exact alloc_flt); simp only [Act.put, List.setIfInBounds_toArray, List.set_cons_zero, List.set_cons_succ]) | ((with_reducible refine wpList_store_ob 29 (.tmp 4) wr.heap.size (fltCells x) (fltCells fltNil) 29 ?_ ?_ ?_ ?_ ?_ ?_ ?_); (exact rfl); (exact rfl); (exact heap_alloc_last wr _); (exact info_flt); (exact rfl); (exact oneCell_flt _); skip))
        go_ret
        exact ⟨by rw [HX.out]; rfl, HW1.out⟩
      have q2 : (x.kind == 2) = false := by rw [beq_eq_false_iff_ne]; exact k2
      by_cases k3 : x.kind = 3
      · have q3 : (x.kind == 3) = true := by rw [k3]; rfl
        have HX : Hid (fateV l = .iface 87 (.agg #[.int .i64 x.byte])) := by show _ = _; rw [HD.out, if_neg k1, if_neg k2, if_pos k3]
        clear k1 k2 k3 HD
        go_wp2_with (first | ((with_reducible refine wpList_load_at 29 (.tmp 9) b (off + k * 6) (fltCells x) HUF.out ?_ ?_ ?_ ?_ ?_); (exact rfl); (exact hcells.out); (exact rfl); (exact info_flt); simp only [Act.put, List.setIfInBounds_toArray, List.set_cons_zero, List.set_cons_succ]) | ((with_reducible refine wpList_alloc_ob 29 (fltCells fltNil) ?_ ?_); (exact alloc_flt); simp only [Act.put, List.setIfInBounds_toArray, List.set_cons_zero, List.set_cons_succ]) | ((with_reducible refine wpList_store_ob 29 (.tmp 4) wr.heap.size (fltCells x) (fltCells fltNil) 29 ?_ ?_ ?_ ?_ ?_ ?_ ?_); (exact rfl); (exact rfl); (exact heap_alloc_last wr _); (exact info_flt); (exact rfl); (exact oneCell_flt _); skip))
        go_ret
        exact ⟨by rw [HX.out]; rfl, HW1.out⟩
      have q3 : (x.kind == 3) = false := by rw [beq_eq_false_iff_ne]; exact k3
      have HX : Hid (fateV (l.drop (k + 1)) = fateV l) := by show _ = _; rw [HD.out, if_neg k1, if_neg k2, if_neg k3]
      clear k1 k2 k3 HD
      go_wp2_with (first | ((with_reducible refine wpList_load_at 29 (.tmp 9) b (off + k * 6) (fltCells x) HUF.out ?_ ?_ ?_ ?_ ?_); (exact rfl); (exact hcells.out); (exact rfl); (exact info_flt); simp only [Act.put, List.setIfInBounds_toArray, List.set_cons_zero, List.set_cons_succ]) | ((with_reducible refine wpList_alloc_ob 29 (fltCells fltNil) ?_ ?_); (exact alloc_flt); simp only [Act.put, List.setIfInBounds_toArray, List.set_cons_zero, List.set_cons_succ]) | ((with_reducible refine wpList_store_ob 29 (.tmp 4) wr.heap.size (fltCells x) (fltCells fltNil) 29 ?_ ?_ ?_ ?_ ?_ ?_ ?_); (exact rfl); (exact rfl); (exact heap_alloc_last wr _); (exact info_flt); (exact rfl); (exact oneCell_flt _); skip))
      go_roundw
      case rel => exact ⟨k + 1, by omega, by go_num, HX.out, HW1.out⟩
      case measure => simp [intOf]; omega
    · obtain rfl : k = l.length := by omega
      have HX : Hid (fateV l = .iface 88 (.agg #[])) := by show _ = _; rw [← HH.out, List.drop_length]; rfl
      clear hg
      go_wp2_with fail
      go_ret
      exact ⟨by rw [HX.out]; rfl, HB.out⟩
end Go.Proofs.Ytlmbnofkmmehoaa
/- the program's carryOut -/
namespace Go.Proofs.Ytlmbnofkmmehoaa
open Go.RowKit
set_option maxRecDepth 20000
set_option linter.unusedSimpArgs false
set_option linter.unusedVariables false

theorem ta_lost_lost (W : World) : Sem.run Try.prog (Instr.typeAssert (.iface 83 (.agg #[])) 20 83 true) W = .ok (.tuple #[.agg #[], .bool true]) W := by kernel_rfl
theorem ta_astray_lost (n : Int) (W : World) : Sem.run Try.prog (Instr.typeAssert (.iface 85 (.agg #[.int .i64 n])) 20 83 true) W = .ok (.tuple #[.agg #[], .bool false]) W := by kernel_rfl
theorem ta_astray_astray (n : Int) (W : World) : Sem.run Try.prog (Instr.typeAssert (.iface 85 (.agg #[.int .i64 n])) 20 85 true) W = .ok (.tuple #[.agg #[.int .i64 n], .bool true]) W := by kernel_rfl
theorem ta_torn_lost (n : Int) (W : World) : Sem.run Try.prog (Instr.typeAssert (.iface 87 (.agg #[.int .i64 n])) 20 83 true) W = .ok (.tuple #[.agg #[], .bool false]) W := by kernel_rfl
theorem ta_torn_astray (n : Int) (W : World) : Sem.run Try.prog (Instr.typeAssert (.iface 87 (.agg #[.int .i64 n])) 20 85 true) W = .ok (.tuple #[.agg #[.int .i64 0], .bool false]) W := by kernel_rfl
theorem ta_torn_torn (n : Int) (W : World) : Sem.run Try.prog (Instr.typeAssert (.iface 87 (.agg #[.int .i64 n])) 20 87 true) W = .ok (.tuple #[.agg #[.int .i64 n], .bool true]) W := by kernel_rfl
theorem ta_whole_lost (W : World) : Sem.run Try.prog (Instr.typeAssert (.iface 88 (.agg #[])) 20 83 true) W = .ok (.tuple #[.agg #[], .bool false]) W := by kernel_rfl
theorem ta_whole_astray (W : World) : Sem.run Try.prog (Instr.typeAssert (.iface 88 (.agg #[])) 20 85 true) W = .ok (.tuple #[.agg #[.int .i64 0], .bool false]) W := by kernel_rfl
theorem ta_whole_torn (W : World) : Sem.run Try.prog (Instr.typeAssert (.iface 88 (.agg #[])) 20 87 true) W = .ok (.tuple #[.agg #[.int .i64 0], .bool false]) W := by kernel_rfl
theorem ta_whole_whole (W : World) : Sem.run Try.prog (Instr.typeAssert (.iface 88 (.agg #[])) 20 88 true) W = .ok (.tuple #[.agg #[], .bool true]) W := by kernel_rfl
theorem alloc_emp (t : TypeId) (h : ∀ W, Sem.run Try.prog (Instr.alloc t true (.tuple #[])) W = .ok (.pointer (some ⟨W.heap.size, 0, none⟩)) (W.alloc (.cells #[] t))) : ∀ W, Sem.run Try.prog (Instr.alloc t true (.tuple #[])) W = .ok (.pointer (some ⟨W.heap.size, 0, none⟩)) (W.alloc (.cells #[] t)) := h
set_option maxHeartbeats 4000000 in
theorem carry_lost {w0 W : World} {M : List Th} {b : Nat} {p u f : Value} {d : Dv} (s : ByteArray) (page : Int) (h : Hp w0 (DvTh b p u f d M) W) :
    Calls Try.prog 44 #[.pointer (some ⟨b, 0, none⟩), .int .i64 page, .string s, .iface 83 (.agg #[])] W fun e W' => e = .returned (.tuple #[]) ∧ ∃ u', Hp w0 (DvTh b p u' f d M) W' := by
  have t_lost := ta_lost_lost
  have HS0 := Lib.hid h
  clear h
  go_enter Try.func44, Try.ntmps44
  go_wp2_with fail
  refine bodyPost_end (v := .tuple #[]) (by simp [results, Try.results44, go_sem]) rfl ⟨rfl, u, ?_⟩
  exact HS0.out.calls ((Below.refl _ _).alloc (Nat.le_refl _) _)
set_option maxHeartbeats 4000000 in
theorem carry_astray {w0 W : World} {M : List Th} {b : Nat} {p u f : Value} {d : Dv} (s : ByteArray) (h : Hp w0 (DvTh b p u f d M) W) (k : Nat) (hk : k < d.pages.length) (hold : ∀ s ∈ d.pages, s.size = 256) (hs : s.size = 256) (hu : d.unread.length ≤ 1000) (hp : d.pages.length ≤ 1000) (page : Int) :
    Calls Try.prog 44 #[.pointer (some ⟨b, 0, none⟩), .int .i64 page, .string s, .iface 85 (.agg #[.int .i64 k])] W fun e W' => e = .returned (.tuple #[]) ∧ ∃ u', Hp w0 (DvTh b p u' f (dputR d k s) M) W' := by
  have t_lost := ta_astray_lost (k : Int)
  have t_astray := ta_astray_astray (k : Int)
  have HPut : Hid (∀ W1, Hp w0 (DvTh b p u f d M) W1 → Calls Try.prog 55 #[.pointer (some ⟨b, 0, none⟩), .int .i64 k, .string s] W1 fun e W' => e = .returned (.tuple #[]) ∧ ∃ u', Hp w0 (DvTh b p u' f (dputR d k s) M) W') := fun W1 h1 => put_any s k h1 hk hold (by omega) hu hp
  have HS0 := Lib.hid h
  clear h hk hold hs hu hp
  go_enter Try.func44, Try.ntmps44
  go_wp2_with fail
  refine (HPut.out _ (HS0.out.calls ((Below.refl _ _).alloc (Nat.le_refl _) _))).mono ?_
  rintro e w2 ⟨rfl, hx⟩
  have HX := Lib.hid hx
  clear hx HS0 HPut
  go_wp2_with fail
  exact bodyPost_end (v := .tuple #[]) (by simp [results, Try.results44, go_sem]) rfl ⟨rfl, HX.out⟩
set_option maxHeartbeats 4000000 in
theorem carry_torn {w0 W : World} {M : List Th} {b : Nat} {p u f : Value} {d : Dv} (s : ByteArray) (h : Hp w0 (DvTh b p u f d M) W) (k : Nat) (hk : k < d.pages.length) (hold : ∀ s ∈ d.pages, s.size = 256) (hs : s.size = 256) (hu : d.unread.length ≤ 1000) (hp : d.pages.length ≤ 1000) (n : Nat) (hn : n ≤ 256) :
    Calls Try.prog 44 #[.pointer (some ⟨b, 0, none⟩), .int .i64 k, .string s, .iface 87 (.agg #[.int .i64 n])] W fun e W' => e = .returned (.tuple #[]) ∧ ∃ u', Hp w0 (DvTh b p u' f (dputR d k (s.extract 0 n)) M) W' := by
  have t_lost := ta_torn_lost (n : Int)
  have t_astray := ta_torn_astray (n : Int)
  have t_torn := ta_torn_torn (n : Int)
  have HPut : Hid (∀ W1, Hp w0 (DvTh b p u f d M) W1 → Calls Try.prog 55 #[.pointer (some ⟨b, 0, none⟩), .int .i64 k, .string (s.extract 0 n)] W1 fun e W' => e = .returned (.tuple #[]) ∧ ∃ u', Hp w0 (DvTh b p u' f (dputR d k (s.extract 0 n)) M) W') := fun W1 h1 => put_any (s.extract 0 n) k h1 hk hold (by rw [ByteArray.size_extract]; omega) hu hp
  have hn0 : (0 : Int) ≤ (n : Int) := by omega
  have hn1 : (n : Int) ≤ (s.size : Int) := by omega
  have hsz : (s.size : Int) = 256 := by omega
  have HS0 := Lib.hid h
  clear h hk hold hs hu hp hn
  go_enter Try.func44, Try.ntmps44
  go_wp2_with fail
  refine (HPut.out _ (HS0.out.calls ((Below.refl _ _).alloc (Nat.le_refl _) _))).mono ?_
  rintro e w2 ⟨rfl, hx⟩
  have HX := Lib.hid hx
  clear hx HS0 HPut
  go_wp2_with fail
  exact bodyPost_end (v := .tuple #[]) (by simp [results, Try.results44, go_sem]) rfl ⟨rfl, HX.out⟩
set_option maxHeartbeats 4000000 in
theorem carry_whole {w0 W : World} {M : List Th} {b : Nat} {p u f : Value} {d : Dv} (s : ByteArray) (h : Hp w0 (DvTh b p u f d M) W) (k : Nat) (hk : k < d.pages.length) (hold : ∀ s ∈ d.pages, s.size = 256) (hs : s.size = 256) (hu : d.unread.length ≤ 1000) (hp : d.pages.length ≤ 1000) :
    Calls Try.prog 44 #[.pointer (some ⟨b, 0, none⟩), .int .i64 k, .string s, .iface 88 (.agg #[])] W fun e W' => e = .returned (.tuple #[]) ∧ ∃ u', Hp w0 (DvTh b p u' f (dputR d k s) M) W' := by
  have t_lost := ta_whole_lost
  have t_astray := ta_whole_astray
  have t_torn := ta_whole_torn
  have t_whole := ta_whole_whole
  have HPut : Hid (∀ W1, Hp w0 (DvTh b p u f d M) W1 → Calls Try.prog 55 #[.pointer (some ⟨b, 0, none⟩), .int .i64 k, .string s] W1 fun e W' => e = .returned (.tuple #[]) ∧ ∃ u', Hp w0 (DvTh b p u' f (dputR d k s) M) W') := fun W1 h1 => put_any s k h1 hk hold (by omega) hu hp
  have HS0 := Lib.hid h
  clear h hk hold hs hu hp
  go_enter Try.func44, Try.ntmps44
  go_wp2_with fail
  refine (HPut.out _ (HS0.out.calls ((Below.refl _ _).alloc (Nat.le_refl _) _))).mono ?_
  rintro e w2 ⟨rfl, hx⟩
  have HX := Lib.hid hx
  clear hx HS0 HPut
  go_wp2_with fail
  exact bodyPost_end (v := .tuple #[]) (by simp [results, Try.results44, go_sem]) rfl ⟨rfl, HX.out⟩
end Go.Proofs.Ytlmbnofkmmehoaa
/- the program's strike: a byte rots -/
namespace Go.Proofs.Ytlmbnofkmmehoaa
open Go.RowKit
set_option maxRecDepth 20000
set_option linter.unusedSimpArgs false
set_option linter.unusedVariables false

theorem xor_b (a b : UInt8) : bits .xor .u8 (a.toNat : Int) (b.toNat : Int) = ((a ^^^ b).toNat : Int) := by
  rw [u8_xor_nat _ _ a.toNat_lt b.toNat_lt, UInt8.toNat_xor]
theorem ba_size (s : ByteArray) : s.data.toList.length = s.size := by rw [Array.length_toList]; rfl
/-- a row of bytes of the walk's own -/
structure ByR (w : World) (B : Nat) (l : List UInt8) : Prop where
  lt : B < w.heap.size
  cell : ∀ i (h : i < l.length), w.cell? ⟨B, i, none⟩ = some (.int .u8 (l[i].toNat : Int))
  frozen : ∀ i, i < l.length → w.frozen? ⟨B, i, none⟩ = false
theorem text_by (w : World) (s : ByteArray) : ∃ w2 cap, Sem.run Try.prog (convert 9 22 (.string s)) w = .ok (.slice (some ⟨w.heap.size, 0, none⟩) s.size cap) w2 ∧ s.size ≤ cap ∧ Below w.heap.size w w2 ∧ ByR w2 w.heap.size s.data.toList := by
  refine ⟨_, _, Go.Lib.run_convert_string_bytes (P := Try.prog) w 9 22 5 s Try.underlying9 Try.underlying22 Try.underlying5, grownCap_ge _ _ _ _, ⟨rfl, rfl, rfl, by rw [Go.Lib.bytesWorld_size]; omega, fun k hk => Go.Lib.bytesWorld_at_old _ _ _ _ hk⟩, ⟨by rw [Go.Lib.bytesWorld_size]; omega, fun i hi => ?_, fun i hi => ?_⟩⟩
  · rw [Go.Lib.bytesWorld_cell _ _ _ _ (by rw [← ba_size]; exact hi), List.getD_eq_getElem?_getD, List.getElem?_eq_getElem hi]
    rfl
  · have hn := Go.Lib.bytesWorld_at_new w 5 s
    have hz : s.size ≤ (Go.Lib.bytesCells w 5 s).size := by
      unfold Go.Lib.bytesCells
      rw [Array.size_append, Array.size_map]
      show s.data.size ≤ _
      omega
    have hi' : i < s.size := by rw [← ba_size]; exact hi
    simp [World.frozen?, hn]
    omega
theorem ByR.drew {w : World} {B : Nat} {l : List UInt8} (h : ByR w B l) : ByR w.drew B l := ⟨h.lt, h.cell, h.frozen⟩
theorem ByR.set {w : World} {B : Nat} {l : List UInt8} (h : ByR w B l) (k : Nat) (hk : k < l.length) (u : UInt8) : ByR (w.setCell ⟨B, k, none⟩ (.int .u8 (u.toNat : Int))) B (l.set k u) := by
  refine ⟨by simp [World.setCell]; exact h.lt, fun i hi => ?_, fun i hi => ?_⟩
  · rw [List.length_set] at hi
    rw [List.getElem_set]
    by_cases e : k = i
    · subst e
      rw [if_pos rfl, World.cell?_setCell_same _ _ _ (h.cell k hk)]
    · rw [if_neg e, World.cell?_setCell_other _ _ _ _ (by intro h'; cases h'; exact e rfl)]
      exact h.cell i hi
  · rw [List.length_set] at hi
    rw [World.frozen?_setCell]
    exact h.frozen i hi
theorem ByR.conv {w : World} {B : Nat} {l : List UInt8} (h : ByR w B l) (c : Nat) : Sem.run Try.prog (convert 22 9 (.slice (some ⟨B, 0, none⟩) l.length c)) w = .ok (.string ⟨l.toArray⟩) w :=
  run_convert_bytes_back (P := Try.prog) w 22 9 5 ⟨B, 0, none⟩ c l Try.underlying22 Try.underlying5 Try.underlying9 (fun j hj => by
    rw [Addr.add_mid, Nat.zero_add]
    exact h.cell j hj)
theorem modify_set {α : Type} (l : List α) (f : α → α) (k : Nat) (h : k < l.length) : l.modify k f = l.set k (f l[k]) := by
  apply List.ext_getElem
  · simp
  · intro i h1 h2
    rw [List.getElem_modify, List.getElem_set]
    by_cases e : k = i
    · subst e; simp
    · simp [e]
theorem below_undrew {n : Nat} {a b : World} (h : Below n a.drew b) : Below n a b := ⟨h.os, h.tape, h.output, h.size, h.block⟩
theorem rotR_list (y : ByteArray) (j : Nat) (m : UInt8) (hj : j < y.data.toList.length) : (⟨(y.data.toList.set j (y.data.toList[j] ^^^ m)).toArray⟩ : ByteArray) = rotR y j (m.toNat : Int) := by
  unfold rotR
  congr 1
  apply Array.toList_inj.1
  rw [Array.toList_modify]
  simp only [Int.toNat_natCast, UInt8.ofNat_toNat]
  rw [modify_set _ _ _ hj]
set_option maxHeartbeats 8000000 in
theorem strike_rot {w0 W : World} {M : List Th} {b : Nat} {p u f : Value} {d : Dv} (x : Flt) (h : Hp w0 (DvTh b p u f d M) W) (hx : x.kind = 4) (k : Nat) (hk : x.page = k) (hkp : k < d.pages.length) (hold : ∀ s ∈ d.pages, s.size = 256) (j : Nat) (hj : x.byte = j) (hjb : j < 256) (m : UInt8) (hm : x.mask = (m.toNat : Int)) (hp : d.pages.length ≤ 1000) :
    Calls Try.prog 46 #[.pointer (some ⟨b, 0, none⟩), .agg (fltCells x).toArray] W fun e W' => e = .returned (.tuple #[]) ∧ ∃ u', Hp w0 (DvTh b p u' f (happenR d x) M) W' := by
  have hpo := h.own 1 rfl
  rcases hpo.2 with ⟨_, h0⟩ | ⟨g, cap, cur, rfl, hB, hg, h1, h2, h3, h4⟩
  · omega
  obtain ⟨kd, at_, pg, tg, by_, ms⟩ := x
  simp only at hx hk hj hm
  subst hx hk hj hm
  obtain ⟨y, hy⟩ : ∃ y, d.pages[k] = y := ⟨_, rfl⟩
  have hys : y.size = 256 := by rw [← hy]; exact hold _ (List.getElem_mem hkp)
  have hjl : j < y.data.toList.length := by rw [ba_size]; omega
  have HHap : Hid (happenR d ⟨4, at_, k, tg, j, m.toNat⟩ = ⟨d.pages.set k (rotR y j m.toNat), d.writes, d.unread, d.dead, d.faults⟩) := by
    show _ = _
    unfold happenR
    rw [if_pos rfl]
    simp only [Int.toNat_natCast]
    rw [modify_set _ _ _ hkp, hy]
  have HS0 : Hid (Hp w0 (.ob b 27 (dvCells (.slice (some ⟨g, 0, none⟩) d.pages.length cap) d u f) :: .sl (.slice (some ⟨g, 0, none⟩) d.pages.length cap) 9 1 d.pages.length (strRow d.pages) :: .sl u 3 1 d.unread.length (intRow d.unread) :: .ob W.heap.size 29 (fltCells ⟨4, at_, k, tg, j, m.toNat⟩) :: M) (W.alloc (.cells #[.int .i64 4, .int .i64 at_, .int .i64 k, .int .i64 tg, .int .i64 j, .int .u8 m.toNat] 29))) := h.ins [_, _, _] 29 _
  have HKp := Lib.hid hkp
  have HPat : Hid ((strRow d.pages)[k]? = some (.string y)) := by show _ = _; rw [strRow_at d.pages k hkp, hy]
  obtain ⟨w2, cap2, hconv, hc2, hb2, hby⟩ := text_by (W.alloc (.cells #[.int .i64 4, .int .i64 at_, .int .i64 k, .int .i64 tg, .int .i64 j, .int .u8 m.toNat] 29)).drew y
  have hsz : (W.alloc (.cells #[.int .i64 4, .int .i64 at_, .int .i64 k, .int .i64 tg, .int .i64 j, .int .u8 m.toNat] 29)).drew.heap.size = W.heap.size + 1 := by simp
  rw [hsz, hys] at hconv
  rw [hsz] at hby hb2
  obtain ⟨z, hz⟩ : ∃ z : UInt8, y.data.toList[j] ^^^ m = z := ⟨_, rfl⟩
  have hxor := xor_b (y.data.toList[j]) m
  rw [hz] at hxor
  have HRot : Hid ((⟨(y.data.toList.set j z).toArray⟩ : ByteArray) = rotR y j m.toNat) := by show _ = _; rw [← hz]; exact rotR_list y j m hjl
  have hcj := hby.cell j hjl
  have hfj := hby.frozen j hjl
  have HBy3 : Hid (ByR (w2.setCell ⟨W.heap.size + 1, j, none⟩ (.int .u8 (z.toNat : Int))).drew.drew (W.heap.size + 1) (y.data.toList.set j z)) := (hby.set j hjl z).drew.drew
  have hcv2 := HBy3.out.conv cap2
  rw [List.length_set, ba_size, hys, HRot.out] at hcv2
  obtain ⟨zz, hzz⟩ : ∃ zz, rotR y j m.toNat = zz := ⟨_, rfl⟩
  rw [hzz] at hcv2
  have HZ := Lib.hid hzz
  have HB2 : Hid (Below (W.heap.size + 1) (W.alloc (.cells #[.int .i64 4, .int .i64 at_, .int .i64 k, .int .i64 tg, .int .i64 j, .int .u8 m.toNat] 29)) w2) := below_undrew hb2
  have HSz := Lib.hid hsz
  have HS2 : Hid (Hp w0 (.ob b 27 (dvCells (.slice (some ⟨g, 0, none⟩) d.pages.length cap) d u f) :: .sl (.slice (some ⟨g, 0, none⟩) d.pages.length cap) 9 1 d.pages.length (strRow d.pages) :: .sl u 3 1 d.unread.length (intRow d.unread) :: .ob W.heap.size 29 (fltCells ⟨4, at_, k, tg, j, m.toNat⟩) :: M) w2) := HS0.out.calls (by rw [show (W.alloc _).heap.size = W.heap.size + 1 from hsz]; exact below_undrew hb2)
  have HS3 : Hid (Hp w0 (.ob b 27 (dvCells (.slice (some ⟨g, 0, none⟩) d.pages.length cap) d u f) :: .sl (.slice (some ⟨g, 0, none⟩) d.pages.length cap) 9 1 d.pages.length (strRow d.pages) :: .sl u 3 1 d.unread.length (intRow d.unread) :: .ob W.heap.size 29 (fltCells ⟨4, at_, k, tg, j, m.toNat⟩) :: M) (w2.setCell ⟨W.heap.size + 1, j, none⟩ (.int .u8 (z.toNat : Int)))) := HS0.out.calls (by
    rw [show (W.alloc _).heap.size = W.heap.size + 1 from hsz]
    exact (below_undrew hb2).setCell (p := ⟨W.heap.size + 1, j, none⟩) (Nat.le_refl _) _)
  clear hsz hb2 hby hc2 hz hzz
  have a0 := HS0.out.drew.at 0 rfl 0 rfl
  have ac := (HS0.out.drew.slcell 1 rfl k HPat.out).1
  have e4 := HS2.out.at 3 rfl 4 rfl
  have e5 := HS2.out.at 3 rfl 5 rfl
  have g0 := HS3.out.at 0 rfl 0 rfl
  have g2 := HS3.out.at 3 rfl 2 rfl
  have gc := (HS3.out.slcell 1 rfl k HPat.out).1
  have gf := (HS3.out.slcell 1 rfl k HPat.out).2
  generalize hyj : (y.data.toList[j].toNat : Int) = yj at *
  generalize (m.toNat : Int) = mi at *
  generalize (z.toNat : Int) = zi at *
  have hk0 : (0 : Int) ≤ (k : Int) := by omega
  have hkn : (k : Int) < (d.pages.length : Int) := by omega
  have hj0 : (0 : Int) ≤ (j : Int) := by omega
  have hjn : (j : Int) < 256 := by omega
  clear h hold hpo hB hg h1 h2 h3 h4 hp hkp hy hyj hjl hjb hys
  show Calls Try.prog 46 #[.pointer (some ⟨b, 0, none⟩), .agg #[.int .i64 4, .int .i64 at_, .int .i64 k, .int .i64 tg, .int .i64 j, .int .u8 mi]] W _
  go_enter Try.func46, Try.ntmps46
  go_wp2_with fail
  go_region
  go_wp2_with fail
  go_region
  go_wp2_with fail
  go_region
  go_wp2_with fail
  refine bodyPost_end (v := .tuple #[]) (by simp [results, Try.results46, go_sem]) rfl ⟨rfl, u, ?_⟩
  have h4 := (HS3.out.slset 1 rfl k HKp.out (.string zz)).drew.drew
  rw [strRow_set] at h4
  have h5 := Hp.del [_, _, _] h4
  rw [HHap.out, HZ.out]
  show Hp w0 (.ob b _ _ :: .sl (.slice (some ⟨g, 0, none⟩) d.pages.length cap) _ 1 (d.pages.set k zz).length _ :: _) _
  rw [List.length_set]
  exact h5
set_option maxHeartbeats 8000000 in
theorem strike_dead {w0 W : World} {M : List Th} {b : Nat} {p u f : Value} {d : Dv} (x : Flt) (h : Hp w0 (DvTh b p u f d M) W) (hx : x.kind = 6) :
    Calls Try.prog 46 #[.pointer (some ⟨b, 0, none⟩), .agg (fltCells x).toArray] W fun e W' => e = .returned (.tuple #[]) ∧ ∃ u', Hp w0 (DvTh b p u' f (happenR d x) M) W' := by
  obtain ⟨kd, at_, pg, tg, by_, ms⟩ := x
  simp only at hx
  subst hx
  have HHap : Hid (happenR d ⟨6, at_, pg, tg, by_, ms⟩ = ⟨d.pages, d.writes, d.unread, true, d.faults⟩) := rfl
  have HS0 : Hid (Hp w0 (.ob b 27 (dvCells p d u f) :: .sl p 9 1 d.pages.length (strRow d.pages) :: .sl u 3 1 d.unread.length (intRow d.unread) :: .ob W.heap.size 29 (fltCells ⟨6, at_, pg, tg, by_, ms⟩) :: M) (W.alloc (.cells #[.int .i64 6, .int .i64 at_, .int .i64 pg, .int .i64 tg, .int .i64 by_, .int .u8 ms] 29))) := h.ins [_, _, _] 29 _
  have b3 := HS0.out.at 0 rfl 3 rfl
  have f3 := HS0.out.frozen 0 rfl 3
  clear h
  show Calls Try.prog 46 #[.pointer (some ⟨b, 0, none⟩), .agg #[.int .i64 6, .int .i64 at_, .int .i64 pg, .int .i64 tg, .int .i64 by_, .int .u8 ms]] W _
  go_enter Try.func46, Try.ntmps46
  go_wp2_with fail
  refine bodyPost_end (v := .tuple #[]) (by simp [results, Try.results46, go_sem]) rfl ⟨rfl, u, ?_⟩
  rw [HHap.out]
  exact Hp.del [_, _, _] (HS0.out.set 0 rfl 3 (.bool true))
set_option maxHeartbeats 8000000 in
theorem strike_none {w0 W : World} {M : List Th} {b : Nat} {p u f : Value} {d : Dv} (x : Flt) (h : Hp w0 (DvTh b p u f d M) W) (h4 : ¬ x.kind = 4) (h5 : ¬ x.kind = 5) (h6 : ¬ x.kind = 6) :
    Calls Try.prog 46 #[.pointer (some ⟨b, 0, none⟩), .agg (fltCells x).toArray] W fun e W' => e = .returned (.tuple #[]) ∧ ∃ u', Hp w0 (DvTh b p u' f (happenR d x) M) W' := by
  have HHap : Hid (happenR d x = d) := by show _ = _; unfold happenR; rw [if_neg h4, if_neg h5, if_neg h6]
  have HB : Hid (Hp w0 (DvTh b p u f d M) (W.alloc (.cells (fltCells x).toArray 29))) := h.calls ((Below.refl _ _).alloc (Nat.le_refl _) _)
  have q4 : (x.kind == 4) = false := by rw [beq_eq_false_iff_ne]; exact h4
  have q5 : (x.kind == 5) = false := by rw [beq_eq_false_iff_ne]; exact h5
  have q6 : (x.kind == 6) = false := by rw [beq_eq_false_iff_ne]; exact h6
  clear h h4 h5 h6
  obtain ⟨kd, at_, pg, tg, by_, ms⟩ := x
  simp only at q4 q5 q6
  show Calls Try.prog 46 #[.pointer (some ⟨b, 0, none⟩), .agg #[.int .i64 kd, .int .i64 at_, .int .i64 pg, .int .i64 tg, .int .i64 by_, .int .u8 ms]] W _
  go_enter Try.func46, Try.ntmps46
  go_wp2_with fail
  refine bodyPost_end (v := .tuple #[]) (by simp [results, Try.results46, go_sem]) rfl ⟨rfl, u, ?_⟩
  rw [HHap.out]
  exact HB.out
end Go.Proofs.Ytlmbnofkmmehoaa
