/- the program's settled (locks) -/
import Derived.Test.YtooaldglgkjjgaaWr3
import Derived.Test.YtooaldglgkjjgaaWr1
namespace Go.Proofs.Ytooaldglgkjjgaa
open Go.RowKit
set_option maxRecDepth 20000
set_option linter.unusedSimpArgs false
set_option linter.unusedVariables false

theorem Hp.grown2 {w W W' : World} {L : List Th} (h : Hp w L W) (i : Nat) {v v' : Value} {t : TypeId} {z n m : Nat} {xs ys : List Value} (e : L[i]? = some (.sl v t z n xs)) (ho : W'.ownsRow w.heap.size t z v' m ys) (hg : W.grownBy W' v.ownBlock) (hb : ∀ b, v'.ownBlock = some b → v.ownBlock = some b ∨ W.heap.size ≤ b) : Hp w (L.set i (.sl v' t z m ys)) W' :=
  h.swap i e _ ho (fun b hb' => hb b hb') rfl (fun k hk hne => hg.block k hk (fun e => hne e.symm)) hg.os hg.tape hg.output hg.size
theorem build_tb1 (a : Option Addr) (n c : Nat) (W : World) : Sem.run Try.prog (Instr.build 25 #[(0, .slice a n c)]) W = .ok (.agg (tbCells (.slice a n c) (.slice none 0 0)).toArray) W := by kernel_rfl
theorem confB_comm (a b : Gr) : confB a b = confB b a := by
  rw [Bool.eq_iff_iff, confB_iff, confB_iff]
  exact ⟨Conf.symm, Conf.symm⟩
theorem able_any (h k : List Gr) (x : Gr) : ableB h k x = !(h.any (fun y => confB x y) || k.any (fun y => confB x y)) := by
  have e : ∀ l : List Gr, l.all (fun y => !confB y x) = !l.any (fun y => confB x y) := fun l => by
    rw [List.not_any_eq_all_not]; congr 1; funext y; rw [confB_comm]
  unfold ableB
  rw [e, e, Bool.not_or]
theorem set_move {h k l : List Gr} {i : Nat} {x : Gr} (hx : l[i]? = some x) (hi : TbIn ⟨h, k ++ l.drop i⟩) (hs : Stuck h k) (ha : ableB h k x = true) : stepS ⟨h, k⟩ x = ⟨holdR h x, k⟩ ∧ TbIn ⟨holdR h x, k ++ l.drop (i + 1)⟩ ∧ Stuck (holdR h x) k := by
  have hlt := (List.getElem?_eq_some_iff.1 hx).1
  have hd : l.drop i = x :: l.drop (i + 1) := by rw [List.drop_eq_getElem_cons hlt, (List.getElem?_eq_some_iff.1 hx).2]
  rw [hd] at hi
  exact ⟨stepS_pos (ableB_iff.1 ha), in_move hi (ableB_iff.1 ha), stuck_hold hi hs⟩
theorem set_stay {h k l : List Gr} {i : Nat} {x : Gr} (hx : l[i]? = some x) (hi : TbIn ⟨h, k ++ l.drop i⟩) (hs : Stuck h k) (ha : ableB h k x = false) : stepS ⟨h, k⟩ x = ⟨h, k ++ [x]⟩ ∧ TbIn ⟨h, (k ++ [x]) ++ l.drop (i + 1)⟩ ∧ Stuck h (k ++ [x]) := by
  have hlt := (List.getElem?_eq_some_iff.1 hx).1
  have hd : l.drop i = x :: l.drop (i + 1) := by rw [List.drop_eq_getElem_cons hlt, (List.getElem?_eq_some_iff.1 hx).2]
  rw [hd] at hi
  exact ⟨stepS_neg (ableB_false.1 ha), by rw [List.append_assoc]; exact hi, stuck_snoc hs (ableB_false.1 ha)⟩
theorem fold_take {l : List Gr} {i : Nat} {x : Gr} {s u : Tb} (hx : l[i]? = some x) (hf : (l.take i).foldl stepS s = u) : (l.take (i + 1)).foldl stepS s = stepS u x := by
  rw [lk_take_snoc hx, List.foldl_append, hf]; rfl
def HoPost2 (l : List Gr) (k : Lok) (w : World) (e : Ending) (w' : World) : Prop :=
  ∃ v m R', e = .returned v ∧ GrRd v m R' ∧ RdIn w' R' ∧ m.length ≤ l.length ∧ (∀ x ∈ m, x ∈ l) ∧ (∀ g : Gr, g.page = k.page ∧ g.slot = k.slot → m.any (fun x => confB g x) = l.any (fun x => confB g x)) ∧ Below w.heap.size w w'
theorem holders_own (k : Lok) (l : List Gr) (v : Value) (B0 : Nat) (W : World) (hs : HeldOk l) (ho : W.ownsRow B0 29 4 v l.length (grRow l)) (hl : l.length ≤ 200000) : Calls Try.prog 65 #[v, .agg (lkCells k).toArray] W (HoPost2 l k W) := by
  obtain ⟨R, h1, h2, _⟩ := own_reads ho
  exact (holders_any k l v R W hs h1 h2 hl).mono fun e w' ⟨v', m, R', a, b, c, _, d, f, g, h⟩ => ⟨v', m, R', a, b, c, d, f, g, h⟩
theorem contains_conf (x : Gr) (m : List Gr) (vm : Value) (Rm : List Rng) (bf : Nat) (W : World) (hx : GoodGr x) (hm : ∀ y ∈ m, GoodGr y) (h1 : GrRd vm m Rm) (h2 : RdIn W Rm) (h3 : RdIn W [(bf, 0, grCells x)]) (hl : m.length ≤ 200000) (c : Bool) (hc : m.any (fun y => confB x y) = c) :
    Calls Try.prog 64 #[vm, .func (.func 90) #[] #[.pointer (some ⟨bf, 0, none⟩)]] W fun e w' => e = .returned (.bool c) ∧ Below W.heap.size W w' := by
  have := contains_any 90 #[.pointer (some ⟨bf, 0, none⟩)] (fun y => confB x y) m vm Rm W eg_against ((against_at x hx bf m hm).fn h3) h1 h2 hl
  rw [hc] at this
  exact this
theorem contains_own (x : Gr) (m : List Gr) (vm : Value) (B0 bf : Nat) (W : World) (hx : GoodGr x) (hm : ∀ y ∈ m, GoodGr y) (ho : W.ownsRow B0 29 4 vm m.length (grRow m)) (h3 : RdIn W [(bf, 0, grCells x)]) (hl : m.length ≤ 200000) (c : Bool) (hc : m.any (fun y => confB x y) = c) :
    Calls Try.prog 64 #[vm, .func (.func 90) #[] #[.pointer (some ⟨bf, 0, none⟩)]] W fun e w' => e = .returned (.bool c) ∧ Below W.heap.size W w' := by
  obtain ⟨R, h1, h2, _⟩ := own_reads ho
  exact contains_conf x m vm R bf W hx hm h1 h2 h3 hl c hc
def TbNew (w : World) (t : Tb) (e : Ending) (w' : World) : Prop :=
  ∃ h v R, e = .returned (.agg (tbCells h v).toArray) ∧ TbRd h v t R ∧ RdIn w' R ∧ (∀ r ∈ R, w.heap.size ≤ r.1) ∧ Below w.heap.size w w'
set_option maxHeartbeats 16000000 in
theorem settled_any {h v : Value} {t : Tb} {R : List Rng} (w : World) (ht : TbRd h v t R) (hR : RdIn w R) (hin : TbIn t) (hf : t.held.length + t.wait.length ≤ 2048) :
    Calls Try.prog 38 #[.agg (tbCells h v).toArray] w (TbNew w (settleR t)) := by
  obtain ⟨a, cap, rfl, hnc, hcm⟩ := ht.1.shape
  obtain ⟨a2, cap2, rfl, hnc2, hcm2⟩ := ht.2.shape
  obtain ⟨_, _, e2, _, _, hg0⟩ := SlRd.open ht.2 hR
  cases e2
  have HCl : Hid (∀ W, Below w.heap.size w W → Calls Try.prog 47 #[.slice a t.held.length cap] W fun e w' => ∃ u, e = .returned u ∧ Below W.heap.size W w' ∧ w'.ownsRow W.heap.size 29 4 u t.held.length (grRow t.held)) := fun W hb => cloneG_any t.held _ R W ht.1 (hR.below hb) (by omega)
  have HFw := Lib.hid hf
  have HIn := Lib.hid hin
  have HSt : Hid (settleR t = t.wait.foldl stepS ⟨t.held, []⟩) := rfl
  have HUX := Lib.hid under_grs
  have h1 := ((Hp.start w).put 25 (tbCells (.slice a t.held.length cap) (.slice a2 t.wait.length cap2))).put 25 (tbCells (.slice none 0 0) (.slice none 0 0))
  simp only [World.size_alloc, List.nil_append, List.cons_append] at h1
  have HS0 : Hid (Hp w [.ob w.heap.size 25 (tbCells (.slice a t.held.length cap) (.slice a2 t.wait.length cap2)), .ob (w.heap.size + 1) 25 (tbCells (.slice none 0 0) (.slice none 0 0))] ((w.alloc (.cells (tbCells (.slice a t.held.length cap) (.slice a2 t.wait.length cap2)).toArray 25)).alloc (.cells #[.slice none 0 0, .slice none 0 0] 25))) := h1
  clear h1 ht hR hin hf hnc hcm hnc2 hcm2
  obtain ⟨fsHUG, huHUG⟩ := under_gr
  have HUG := Lib.hid huHUG
  clear huHUG
  obtain ⟨fsHUT, huHUT⟩ := under_tb
  have HUT := Lib.hid huHUT
  clear huHUT
  obtain ⟨fsHUK, huHUK⟩ := under_lk
  have HUK := Lib.hid huHUK
  clear huHUK
  obtain ⟨S, hS⟩ : ∃ S, settleR t = S := ⟨_, rfl⟩
  rw [hS] at HSt ⊢
  clear hS
  go_enter Try.func38, Try.ntmps38
  go_upto_region 1 with (fail)
  generalize ((w.alloc (.cells (tbCells (.slice a t.held.length cap) (.slice a2 t.wait.length cap2)).toArray 25)).alloc (.cells #[.slice none 0 0, .slice none 0 0] 25)) = w1 at *
  generalize w.heap.size + 1 = b2 at *
  have b0 : w1.cell? ⟨w.heap.size, 0, none⟩ = some (.slice a t.held.length cap) := HS0.out.at 0 rfl 0 rfl
  go_wp2_with fail
  refine (HCl.out _ (HS0.out).old).mono ?_
  rintro e w21 ⟨u0, rfl, hb, ho⟩
  have HS21 : Hid (Hp w [.ob (w.heap.size) 25 (tbCells (.slice a t.held.length cap) (.slice a2 t.wait.length cap2)), .ob b2 25 (tbCells (.slice none 0 0) (.slice none 0 0)), .sl u0 29 4 (t.held.length) (grRow t.held)] w21) := (HS0.out).addown hb ho
  clear hb ho
  clear HS0
  clear b0 HCl
  obtain ⟨a0, c0, rfl⟩ := own_slice (HS21.out.own 2 rfl)
  go_upto_region 2 with (first | ((with_reducible refine wpList_build_v (d := some 9) 25 (.agg (tbCells (.slice a0 t.held.length c0) (.slice none 0 0)).toArray) ?_ ?_); (intro W; simp only [List.map_toArray, List.map_cons, List.map_nil]; exact build_tb1 a0 t.held.length c0 W); simp only [Act.put, List.setIfInBounds_toArray, List.set_cons_zero, List.set_cons_succ]) | ((with_reducible refine wpList_alloc_ob 25 (tbCells (.slice none 0 0) (.slice none 0 0)) ?_ ?_); (exact alloc_tb); simp only [Act.put, List.setIfInBounds_toArray, List.set_cons_zero, List.set_cons_succ]) | ((with_reducible refine wpList_store_ob 25 (.tmp 3) (w21.heap.size) (tbCells (.slice a0 t.held.length c0) (.slice none 0 0)) (tbCells (.slice none 0 0) (.slice none 0 0)) 25 ?_ ?_ ?_ ?_ ?_ ?_ ?_); (exact rfl); (exact rfl); (exact ((HS21.out).put 25 (tbCells (.slice none 0 0) (.slice none 0 0))).get 3 rfl); (exact info_tb); (exact rfl); (exact (oneCell_tb _ _ _ _ _ _)); skip))
  have HS22 : Hid (Hp w [.ob (w.heap.size) 25 (tbCells (.slice a t.held.length cap) (.slice a2 t.wait.length cap2)), .ob b2 25 (tbCells (.slice none 0 0) (.slice none 0 0)), .sl ((.slice a0 t.held.length c0)) 29 4 (t.held.length) (grRow t.held), .ob (w21.heap.size) 25 (tbCells (.slice a0 t.held.length c0) (.slice none 0 0))] ((w21.alloc (.cells (tbCells (.slice none 0 0) (.slice none 0 0)).toArray 25)).setRow (w21.heap.size) (tbCells (.slice a0 t.held.length c0) (.slice none 0 0)).toArray)) := ((HS21.out).put 25 (tbCells (.slice none 0 0) (.slice none 0 0))).row 3 rfl (tbCells (.slice a0 t.held.length c0) (.slice none 0 0))
  clear HS21
  generalize ((w21.alloc (.cells (tbCells (.slice none 0 0) (.slice none 0 0)).toArray 25)).setRow (w21.heap.size) (tbCells (.slice a0 t.held.length c0) (.slice none 0 0)).toArray) = w22 at *
  generalize w21.heap.size = B21 at *
  have HSn := Lib.hid (HS22.out.nil 29 4)
  have HSp : Hid (Hp w [.ob w.heap.size 25 (tbCells (.slice a t.held.length cap) (.slice a2 t.wait.length cap2)), .ob b2 25 (tbCells (.slice none 0 0) (.slice none 0 0)), .ob B21 25 (tbCells (.slice a0 t.held.length c0) (.slice none ([] : List Gr).length 0)), .sl (.slice a0 t.held.length c0) 29 4 t.held.length (grRow t.held), .sl (.slice none ([] : List Gr).length 0) 29 4 ([] : List Gr).length (grRow [])] w22) := Lib.hid (HSn.out.pull [0, 1, 3, 2, 4] rfl (pull_nd HSn.out.nd [0, 1, 3, 2, 4] rfl (by decide)))
  clear HSn HS22
  have b1 : w22.cell? ⟨w.heap.size, 1, none⟩ = some (.slice a2 t.wait.length cap2) := HSp.out.at 0 rfl 1 rfl
  go_wp2_with fail
  clear b1
  go_loopw [13] (fun iv wr => ∃ (i : Nat) (h k : List Gr) (a3 : Option Addr) (c3 : Nat) (a4 : Option Addr) (c4 : Nat), iv = .int .i64 i ∧ i ≤ t.wait.length ∧ (t.wait.take i).foldl stepS ⟨t.held, []⟩ = ⟨h, k⟩ ∧ TbIn ⟨h, k ++ t.wait.drop i⟩ ∧ Stuck h k ∧ h.length + k.length ≤ t.held.length + i ∧ Hp w [.ob w.heap.size 25 (tbCells (.slice a t.held.length cap) (.slice a2 t.wait.length cap2)), .ob b2 25 (tbCells (.slice none 0 0) (.slice none 0 0)), .ob B21 25 (tbCells (.slice a3 h.length c3) (.slice a4 k.length c4)), .sl (.slice a3 h.length c3) 29 4 h.length (grRow h), .sl (.slice a4 k.length c4) 29 4 k.length (grRow k)] wr) (fun iv _ => t.wait.length - (intOf iv).toNat)
  case atStart => exact ⟨0, t.held, [], a0, c0, none, 0, rfl, by omega, rfl, HIn.out, stuck_nil _, by simp, HSp.out⟩
  case round =>
    clear HSp HIn
    obtain ⟨i, h, k, a3, c3, a4, c4, rfl, hi, hfo, hin, hst, hlen, hs⟩ := hrel
    have HY := Lib.hid hs
    have HFo := Lib.hid hfo
    have HIn := Lib.hid hin
    have HSk := Lib.hid hst
    have HLen := Lib.hid hlen
    clear hs hfo hin hst hlen
    by_cases hlt : i < t.wait.length
    · obtain ⟨g, off, rfl, hr⟩ := hg0.out (by omega)
      have HRg := Lib.hid hr
      obtain ⟨x, hx⟩ : ∃ x, t.wait[i]? = some x := ⟨_, List.getElem?_eq_getElem hlt⟩
      have HXi := Lib.hid hx
      have hxm : x ∈ k ++ t.wait.drop i := List.mem_append_right _ (by rw [List.drop_eq_getElem_cons hlt, (List.getElem?_eq_some_iff.1 hx).2]; exact List.mem_cons_self ..)
      have HGx : Hid (GoodGr x) := (HIn.out.wait.ok x hxm).1.good
      have HGh : Hid (∀ y ∈ h, GoodGr y) := fun y hy => (HIn.out.held.ok y hy).good
      have HGk : Hid (∀ y ∈ k, GoodGr y) := fun y hy => (HIn.out.wait.ok y (List.mem_append_left _ hy)).1.good
      have HHk : Hid (HeldOk h) := HIn.out.held
      have HLh : Hid (h.length ≤ 4096 ∧ k.length ≤ 4096) := by show _ ∧ _; have h1 := HLen.out; have h2 := HFw.out; omega
      have hii : (i : Int) < (t.wait.length : Int) := by omega
      have hi0 : (0 : Int) ≤ (i : Int) := by omega
      have hiw : IntKind.i64.wrap ((i : Int) + 1) = (i : Int) + 1 := IntWalk.i64_in _ (by have := HFw.out; omega)
      have HLt := Lib.hid hlt
      have hab := able_any h k x
      have hmv := fun e => set_move HXi.out HIn.out HSk.out (x := x) e
      have hsy := fun e => set_stay HXi.out HIn.out HSk.out (x := x) e
      clear hr hi hx hxm hlt hg0
      go_upto_region 5 with (first | ((with_reducible refine wpList_load_at 29 (.tmp 15) g ((off + i * 4)) (grCells x) HUG.out ?_ ?_ ?_ ?_ ?_); (exact rfl); (exact (elem_rng (HRg.out _ (HY.out).old) HXi.out)); (exact rfl); (exact info_gr); simp only [Act.put, List.setIfInBounds_toArray, List.set_cons_zero, List.set_cons_succ]) | ((with_reducible refine wpList_alloc_ob 29 (grCells grNil) ?_ ?_); (exact alloc_gr); simp only [Act.put, List.setIfInBounds_toArray, List.set_cons_zero, List.set_cons_succ]) | ((with_reducible refine wpList_store_ob 29 (.tmp 5) (wr.heap.size) (grCells x) (grCells grNil) 29 ?_ ?_ ?_ ?_ ?_ ?_ ?_); (exact rfl); (exact rfl); (exact ((HY.out).put 29 (grCells grNil)).get 5 rfl); (exact info_gr); (exact rfl); (exact (oneCell_gr _)); skip))
      have HS41 : Hid (Hp w [.ob (w.heap.size) 25 (tbCells (.slice a t.held.length cap) (.slice (some ⟨g, off, none⟩) t.wait.length cap2)), .ob b2 25 (tbCells (.slice none 0 0) (.slice none 0 0)), .ob B21 25 (tbCells (.slice a3 h.length c3) (.slice a4 k.length c4)), .sl ((.slice a3 h.length c3)) 29 4 (h.length) (grRow h), .sl ((.slice a4 k.length c4)) 29 4 (k.length) (grRow k), .ob (wr.heap.size) 29 (grCells x)] ((wr.alloc (.cells (grCells grNil).toArray 29)).setRow (wr.heap.size) (grCells x).toArray)) := ((HY.out).put 29 (grCells grNil)).row 5 rfl (grCells x)
      clear HY
      generalize ((wr.alloc (.cells (grCells grNil).toArray 29)).setRow (wr.heap.size) (grCells x).toArray) = w41 at *
      generalize wr.heap.size = B41 at *
      obtain ⟨c1, hc1⟩ : ∃ c1, h.any (fun y => confB x y) = c1 := ⟨_, rfl⟩
      obtain ⟨c2, hc2⟩ : ∃ c2, k.any (fun y => confB x y) = c2 := ⟨_, rfl⟩
      have HC1 := Lib.hid hc1
      have HC2 := Lib.hid hc2
      rw [hc1, hc2] at hab
      clear hc1 hc2
      cases c1
      case true =>
        obtain ⟨hv1, hv2, hv3⟩ := hsy (by rw [hab]; rfl)
        obtain ⟨kx, hkx⟩ : ∃ kx, k ++ [x] = kx := ⟨_, rfl⟩
        rw [hkx] at hv1 hv2 hv3
        have HKx := Lib.hid hkx
        clear hkx
        have HV1 := Lib.hid hv1
        have HV2 := Lib.hid hv2
        have HV3 := Lib.hid hv3
        clear hmv hsy hab hv1 hv2 hv3
        refine wp_region_held_drew (S := fun w' => w'.rangeAt B21 0 (tbCells (.slice a3 h.length c3) (.slice a4 k.length c4)) ∧ w'.rangeAt B41 0 (grCells x)) (by kernel_rfl) (⟨(fun j v hv => by rw [Nat.zero_add]; exact ((HS41.out).drew).at 2 rfl j hv), (fun j v hv => by rw [Nat.zero_add]; exact ((HS41.out).drew).at 5 rfl j hv)⟩) (fun hHeld => ?_)
        refine wpAnyH_take (i := 0) (oi := { dst := some 17, op := Op.fieldAddr 25 (Operand.tmp 3) 0, type := 0, pos := "locks.go:136", after := #[], guard := none }) (v := ?q101v) rfl (by kernel_rfl) (by kernel_rfl) (by kernel_rfl) (fun _ _ _ h => h) (Or.inl ⟨by rfl, ?q101h⟩) hHeld ?q101r
        case q101h => (intro wq hSw; clear hSw; go_simp; try with_reducible rfl)
        try simp only [Act.put, List.setIfInBounds_toArray, List.set_cons_zero, List.set_cons_succ]
        refine wpAnyH_take (i := 1) (oi := { dst := some 18, op := Op.load 23 (Operand.tmp 17), type := 23, pos := "locks.go:136", after := #[{ on := 0, ground := Ground.data }], guard := none }) (v := .slice a3 h.length c3) rfl (by kernel_rfl) (by kernel_rfl) (by kernel_rfl) (fun _ _ _ h => h) (Or.inl ⟨by rfl, ?q102h⟩) hHeld ?q102r
        case q102h => (intro wq hSw; have lq := (hSw.1) 0 (.slice a3 h.length c3) rfl; simp only [Nat.zero_add] at lq; clear hSw; go_simp; try with_reducible rfl)
        try simp only [Act.put, List.setIfInBounds_toArray, List.set_cons_zero, List.set_cons_succ]
        refine wpAnyH_take (i := 2) (oi := { dst := some 19, op := Op.fieldAddr 29 (Operand.tmp 5) 1, type := 0, pos := "locks.go:136", after := #[], guard := none }) (v := ?q103v) rfl (by kernel_rfl) (by kernel_rfl) (by kernel_rfl) (fun _ _ _ h => h) (Or.inl ⟨by rfl, ?q103h⟩) hHeld ?q103r
        case q103h => (intro wq hSw; clear hSw; go_simp; try with_reducible rfl)
        try simp only [Act.put, List.setIfInBounds_toArray, List.set_cons_zero, List.set_cons_succ]
        refine wpAnyH_take (i := 3) (oi := { dst := some 20, op := Op.load 27 (Operand.tmp 19), type := 27, pos := "locks.go:136", after := #[{ on := 2, ground := Ground.data }], guard := none }) rfl (by kernel_rfl) (by kernel_rfl) (by kernel_rfl) (fun _ _ _ h => h) (yieldsIf_load_mid (by rfl) 27 (.tmp 19) rfl B41 (1) rfl (lkCells x.lock) _ (fun _ h => range_part (h.2) (mid_lk x)) HUK.out rfl (info_lk)) hHeld ?_
        try simp only [Act.put, List.setIfInBounds_toArray, List.set_cons_zero, List.set_cons_succ]
        refine wpAnyH_take (i := 5) (oi := { dst := some 22, op := Op.load 29 (Operand.tmp 5), type := 29, pos := "locks.go:136", after := #[], guard := none }) rfl (by kernel_rfl) (by kernel_rfl) (by kernel_rfl) (fun _ _ _ h => h) (yieldsIf_load_mid (by rfl) 29 (.tmp 5) rfl B41 (0) rfl (grCells x) _ (fun _ h => h.2) HUG.out rfl (info_gr)) hHeld ?_
        try simp only [Act.put, List.setIfInBounds_toArray, List.set_cons_zero, List.set_cons_succ]
        refine wpAnyH_ready (rs := [4]) (by kernel_rfl) (by simp) ?_
        refine AllReadyH.cons (o := { dst := some 21, op := Op.call { callee := Callee.value (Operand.func 65), args := #[Operand.tmp 18, Operand.tmp 20], argTypes := #[23, 27] }, type := 23, pos := "locks.go:136", after := #[{ on := 1, ground := Ground.data }, { on := 3, ground := Ground.data }], guard := none }) rfl (fun K hK => ?_) (AllReadyH.nil)
        go_simp
        go_wp2_with (go_at_call 65; refine (holders_own x.lock h _ w.heap.size _ HHk.out (((HS41.out).drew).own 3 rfl) (by have := HLh.out; omega)).mono ?_; rintro e w101 ⟨vm, m, Rm, rfl, hrm, him, hml, hms, hma, hb⟩)
        have HRm := Lib.hid hrm
        have HIm := Lib.hid him
        have HMl := Lib.hid hml
        have HMs := Lib.hid hms
        have HMa := Lib.hid ((hma x ⟨rfl, rfl⟩).trans HC1.out)
        have HS101 : Hid (Hp w [.ob (w.heap.size) 25 (tbCells (.slice a t.held.length cap) (.slice (some ⟨g, off, none⟩) t.wait.length cap2)), .ob b2 25 (tbCells (.slice none 0 0) (.slice none 0 0)), .ob B21 25 (tbCells (.slice a3 h.length c3) (.slice a4 k.length c4)), .sl ((.slice a3 h.length c3)) 29 4 (h.length) (grRow h), .sl ((.slice a4 k.length c4)) 29 4 (k.length) (grRow k), .ob B41 29 (grCells x)] w101) := ((HS41.out).drew).calls hb
        refine hK.out _ _ (⟨(fun j v hv => by rw [Nat.zero_add]; exact (HS101.out).at 2 rfl j hv), (fun j v hv => by rw [Nat.zero_add]; exact (HS101.out).at 5 rfl j hv)⟩) (fun hHeld => ?_)
        clear hK K hb hrm him hml hms hma
        try simp only [Act.put, List.setIfInBounds_toArray, List.set_cons_zero, List.set_cons_succ]
        refine wpAnyH_ready (rs := [6]) (by kernel_rfl) (by simp) ?_
        refine AllReadyH.cons (o := { dst := some 23, op := Op.call { callee := Callee.value (Operand.func 66), args := #[Operand.tmp 22], argTypes := #[29] }, type := 69, pos := "locks.go:136", after := #[{ on := 5, ground := Ground.data }, { on := 4, ground := Ground.chain }], guard := none }) rfl (fun K hK => ?_) (AllReadyH.nil)
        go_simp
        go_wp2_with (go_at_call 66; refine (against_any x _).mono ?_; rintro e w102 ⟨bf1, rfl, hin, hnw, hb⟩)
        have HIm2 := Lib.hid (HIm.out.below hb)
        clear HIm
        have HS102 : Hid (Hp w [.ob (w.heap.size) 25 (tbCells (.slice a t.held.length cap) (.slice (some ⟨g, off, none⟩) t.wait.length cap2)), .ob b2 25 (tbCells (.slice none 0 0) (.slice none 0 0)), .ob B21 25 (tbCells (.slice a3 h.length c3) (.slice a4 k.length c4)), .sl ((.slice a3 h.length c3)) 29 4 (h.length) (grRow h), .sl ((.slice a4 k.length c4)) 29 4 (k.length) (grRow k), .ob B41 29 (grCells x), .rd [(bf1, 0, grCells x)]] w102) := (HS101.out).addrd hb [(bf1, 0, grCells x)] hin (fun r hr => .inl (by obtain rfl := List.mem_singleton.1 hr; exact hnw))
        refine hK.out _ _ (⟨(fun j v hv => by rw [Nat.zero_add]; exact (HS102.out).at 2 rfl j hv), (fun j v hv => by rw [Nat.zero_add]; exact (HS102.out).at 5 rfl j hv)⟩) (fun hHeld => ?_)
        clear hK K hb hin hnw
        try simp only [Act.put, List.setIfInBounds_toArray, List.set_cons_zero, List.set_cons_succ]
        refine wpAnyH_ready (rs := [7]) (by kernel_rfl) (by simp) ?_
        refine AllReadyH.cons (o := { dst := some 24, op := Op.call { callee := Callee.value (Operand.func 64), args := #[Operand.tmp 21, Operand.tmp 23], argTypes := #[23, 69] }, type := 4, pos := "locks.go:136", after := #[{ on := 4, ground := Ground.data }, { on := 6, ground := Ground.data }, { on := 6, ground := Ground.chain }], guard := none }) rfl (fun K hK => ?_) (AllReadyH.nil)
        go_simp
        go_wp2_with (go_at_call 64; refine (contains_conf x m vm Rm _ _ HGx.out (fun y hy => HGh.out y (HMs.out y hy)) HRm.out HIm2.out ((HS102.out).reads 6 rfl) (by have h1 := HMl.out; have h2 := HLh.out; omega) true HMa.out).mono ?_; rintro e w103 ⟨rfl, hb⟩)
        have HS103 : Hid (Hp w [.ob (w.heap.size) 25 (tbCells (.slice a t.held.length cap) (.slice (some ⟨g, off, none⟩) t.wait.length cap2)), .ob b2 25 (tbCells (.slice none 0 0) (.slice none 0 0)), .ob B21 25 (tbCells (.slice a3 h.length c3) (.slice a4 k.length c4)), .sl ((.slice a3 h.length c3)) 29 4 (h.length) (grRow h), .sl ((.slice a4 k.length c4)) 29 4 (k.length) (grRow k), .ob B41 29 (grCells x), .rd [(bf1, 0, grCells x)]] w103) := (HS102.out).calls hb
        refine hK.out _ _ (⟨(fun j v hv => by rw [Nat.zero_add]; exact (HS103.out).at 2 rfl j hv), (fun j v hv => by rw [Nat.zero_add]; exact (HS103.out).at 5 rfl j hv)⟩) (fun hHeld => ?_)
        clear hK K hb
        try simp only [Act.put, List.setIfInBounds_toArray, List.set_cons_zero, List.set_cons_succ]
        refine wpAnyH_take (i := 8) (oi := { dst := some 25, op := Op.move (Operand.tmp 24), type := 4, pos := "locks.go:136", after := #[{ on := 7, ground := Ground.data }, { on := 7, ground := Ground.chain }], guard := none }) (v := ?q106v) rfl (by kernel_rfl) (by kernel_rfl) (by kernel_rfl) (fun _ _ _ h => h) (Or.inl ⟨by rfl, ?q106h⟩) hHeld ?q106r
        case q106h => (intro wq hSw; clear hSw; go_simp; try with_reducible rfl)
        try simp only [Act.put, List.setIfInBounds_toArray, List.set_cons_zero, List.set_cons_succ]
        refine wpAnyH_take (i := 9) (oi := { dst := some 26, op := Op.fieldAddr 25 (Operand.tmp 3) 1, type := 0, pos := "locks.go:136", after := #[{ on := 8, ground := Ground.guard }], guard := some (8, false) }) (v := undef) rfl (by kernel_rfl) (by kernel_rfl) (by kernel_rfl) (fun _ _ _ h => h) (Or.inr ⟨by rfl, rfl⟩) hHeld ?_
        try simp only [Act.put, List.setIfInBounds_toArray, List.set_cons_zero, List.set_cons_succ]
        refine wpAnyH_take (i := 10) (oi := { dst := some 27, op := Op.load 23 (Operand.tmp 26), type := 23, pos := "locks.go:136", after := #[{ on := 9, ground := Ground.data }, { on := 8, ground := Ground.guard }], guard := some (8, false) }) (v := undef) rfl (by kernel_rfl) (by kernel_rfl) (by kernel_rfl) (fun _ _ _ h => h) (Or.inr ⟨by rfl, rfl⟩) hHeld ?_
        try simp only [Act.put, List.setIfInBounds_toArray, List.set_cons_zero, List.set_cons_succ]
        refine wpAnyH_take (i := 11) (oi := { dst := some 28, op := Op.load 29 (Operand.tmp 5), type := 29, pos := "locks.go:136", after := #[{ on := 8, ground := Ground.guard }], guard := some (8, false) }) (v := undef) rfl (by kernel_rfl) (by kernel_rfl) (by kernel_rfl) (fun _ _ _ h => h) (Or.inr ⟨by rfl, rfl⟩) hHeld ?_
        try simp only [Act.put, List.setIfInBounds_toArray, List.set_cons_zero, List.set_cons_succ]
        refine wpAnyH_ready (rs := [12]) (by kernel_rfl) (by simp) ?_
        refine AllReadyH.cons (o := { dst := some 29, op := Op.call { callee := Callee.value (Operand.func 66), args := #[Operand.tmp 28], argTypes := #[29] }, type := 69, pos := "locks.go:136", after := #[{ on := 11, ground := Ground.data }, { on := 8, ground := Ground.chain }, { on := 8, ground := Ground.guard }], guard := some (8, false) }) rfl (fun K hK => ?_) (AllReadyH.nil)
        rw [if_neg (by exact Bool.false_ne_true)]
        have HS104 : Hid (Hp w [.ob (w.heap.size) 25 (tbCells (.slice a t.held.length cap) (.slice (some ⟨g, off, none⟩) t.wait.length cap2)), .ob b2 25 (tbCells (.slice none 0 0) (.slice none 0 0)), .ob B21 25 (tbCells (.slice a3 h.length c3) (.slice a4 k.length c4)), .sl ((.slice a3 h.length c3)) 29 4 (h.length) (grRow h), .sl ((.slice a4 k.length c4)) 29 4 (k.length) (grRow k), .ob B41 29 (grCells x), .rd [(bf1, 0, grCells x)]] w103) := HS103.out
        refine hK.out _ _ (⟨(fun j v hv => by rw [Nat.zero_add]; exact (HS104.out).at 2 rfl j hv), (fun j v hv => by rw [Nat.zero_add]; exact (HS104.out).at 5 rfl j hv)⟩) (fun hHeld => ?_)
        clear hK K
        try simp only [Act.put, List.setIfInBounds_toArray, List.set_cons_zero, List.set_cons_succ]
        refine wpAnyH_ready (rs := [13]) (by kernel_rfl) (by simp) ?_
        refine AllReadyH.cons (o := { dst := some 30, op := Op.call { callee := Callee.value (Operand.func 64), args := #[Operand.tmp 27, Operand.tmp 29], argTypes := #[23, 69] }, type := 4, pos := "locks.go:136", after := #[{ on := 10, ground := Ground.data }, { on := 12, ground := Ground.data }, { on := 12, ground := Ground.chain }, { on := 8, ground := Ground.guard }], guard := some (8, false) }) rfl (fun K hK => ?_) (AllReadyH.nil)
        rw [if_neg (by exact Bool.false_ne_true)]
        have HS105 : Hid (Hp w [.ob (w.heap.size) 25 (tbCells (.slice a t.held.length cap) (.slice (some ⟨g, off, none⟩) t.wait.length cap2)), .ob b2 25 (tbCells (.slice none 0 0) (.slice none 0 0)), .ob B21 25 (tbCells (.slice a3 h.length c3) (.slice a4 k.length c4)), .sl ((.slice a3 h.length c3)) 29 4 (h.length) (grRow h), .sl ((.slice a4 k.length c4)) 29 4 (k.length) (grRow k), .ob B41 29 (grCells x), .rd [(bf1, 0, grCells x)]] w103) := HS104.out
        refine hK.out _ _ (⟨(fun j v hv => by rw [Nat.zero_add]; exact (HS105.out).at 2 rfl j hv), (fun j v hv => by rw [Nat.zero_add]; exact (HS105.out).at 5 rfl j hv)⟩) (fun hHeld => ?_)
        clear hK K
        try simp only [Act.put, List.setIfInBounds_toArray, List.set_cons_zero, List.set_cons_succ]
        refine wpAnyH_take (i := 14) (oi := { dst := some 31, op := Op.pick (Operand.tmp 25) (Operand.const (Value.bool true)) (Operand.tmp 30), type := 4, pos := "locks.go:136", after := #[{ on := 8, ground := Ground.data }, { on := 13, ground := Ground.data }], guard := none }) (v := ?q110v) rfl (by kernel_rfl) (by kernel_rfl) (by kernel_rfl) (fun _ _ _ h => h) (Or.inl ⟨by rfl, ?q110h⟩) hHeld ?q110r
        case q110h => (intro wq hSw; clear hSw; go_simp; try with_reducible rfl)
        try simp only [Act.put, List.setIfInBounds_toArray, List.set_cons_zero, List.set_cons_succ]
        refine wpAnyH_done (by kernel_rfl) ?_ _
        clear hHeld
        have HS106 : Hid (Hp w [.ob (w.heap.size) 25 (tbCells (.slice a t.held.length cap) (.slice (some ⟨g, off, none⟩) t.wait.length cap2)), .ob b2 25 (tbCells (.slice none 0 0) (.slice none 0 0)), .ob B21 25 (tbCells (.slice a3 h.length c3) (.slice a4 k.length c4)), .sl ((.slice a3 h.length c3)) 29 4 (h.length) (grRow h), .sl ((.slice a4 k.length c4)) 29 4 (k.length) (grRow k), .ob B41 29 (grCells x)] w103) := HS105.out.pull [0, 1, 2, 3, 4, 5] rfl (pull_nd HS105.out.nd [0, 1, 2, 3, 4, 5] rfl (by decide))
        clear HS105
        have q1 : w103.cell? ⟨B21, 1, none⟩ = some (.slice a4 k.length c4) := (HS106.out).at 2 rfl 1 rfl
        go_wp2_with (first | ((with_reducible refine wpList_load_ob 29 (.tmp 5) B41 (grCells x) 29 HUG.out ?_ ?_ ?_ ?_ ?_); (exact rfl); (exact (HS106.out).get 5 rfl); (exact rfl); (exact info_gr); simp only [Act.put, List.setIfInBounds_toArray, List.set_cons_zero, List.set_cons_succ]) | ((with_reducible refine wpList_build_obs 23 1 elem_gr HUX.out [grCells x] ?_ ?_ ?_ ?_ ?_ ?_); (exact (List.forall_mem_cons.2 ⟨rfl, (fun _ h => absurd h List.not_mem_nil)⟩)); (exact Nat.succ_pos _); (simp only [List.length_cons, List.length_nil]; omega); (exact rfl); (simp only [List.map_toArray, List.map_cons, List.map_nil, List.zipIdx_cons, List.zipIdx_nil]; exact rfl); simp only [Act.put, List.setIfInBounds_toArray, List.set_cons_zero, List.set_cons_succ]) | ((with_reducible refine wpList_append_hp ((HS106.out).put 29 (([grCells x] : List (List Value)).flatMap id)) (.tmp 33) (.tmp 35) 23 4 (v := (.slice a4 k.length c4)) (e := 29) (z := 4) (n := k.length) (xs := grRow k) ?_ 6 (b := (w103.heap.size)) (t' := 29) (ys := ([grCells x] : List (List Value)).flatMap id) ?_ HUX.out elem_gr 1 1 ?_ ?_ ?_ ?_ ?_ ?_); (exact rfl); (exact rfl); (exact rfl); (exact rfl); (exact rfl); (exact (by intro u hu; simp only [List.flatMap_cons, List.flatMap_nil, List.append_nil, id] at hu; exact one_gr _ u hu)); (exact (by have := HLh.out; omega))))
        intro v104 w104 hs hnil
        have hs2 : Hp w [.ob (w.heap.size) 25 (tbCells (.slice a t.held.length cap) (.slice (some ⟨g, off, none⟩) t.wait.length cap2)), .ob b2 25 (tbCells (.slice none 0 0) (.slice none 0 0)), .ob B21 25 (tbCells (.slice a3 h.length c3) (.slice a4 k.length c4)), .sl ((.slice a3 h.length c3)) 29 4 (h.length) (grRow h), .sl v104 29 4 (kx.length) (grRow kx), .ob B41 29 (grCells x), .ob (w103.heap.size) 29 (([grCells x] : List (List Value)).flatMap id)] w104 := by rw [← HKx.out, grRow_append, grRow_one, List.length_append]; exact hs
        have HS108 : Hid (Hp w [.ob (w.heap.size) 25 (tbCells (.slice a t.held.length cap) (.slice (some ⟨g, off, none⟩) t.wait.length cap2)), .ob b2 25 (tbCells (.slice none 0 0) (.slice none 0 0)), .ob B21 25 (tbCells (.slice a3 h.length c3) (.slice a4 k.length c4)), .sl ((.slice a3 h.length c3)) 29 4 (h.length) (grRow h), .sl v104 29 4 (kx.length) (grRow kx), .ob B41 29 (grCells x), .ob (w103.heap.size) 29 (([grCells x] : List (List Value)).flatMap id)] w104) := hs2
        clear hs hs2
        clear HS106
        generalize w103.heap.size = B101 at *
        clear q1
        obtain ⟨a6, c6, rfl⟩ := own_slice (HS108.out.own 4 rfl)
        have q5 : w104.cell? ⟨B21, 1, none⟩ = some (.slice a4 k.length c4) := (HS108.out).at 2 rfl 1 rfl
        have f5 : w104.frozen? ⟨B21, 1, none⟩ = false := (HS108.out).frozen 2 rfl 1
        go_wp2_with fail
        clear q5 f5
        have HS109 : Hid (Hp w [.ob (w.heap.size) 25 (tbCells (.slice a t.held.length cap) (.slice (some ⟨g, off, none⟩) t.wait.length cap2)), .ob b2 25 (tbCells (.slice none 0 0) (.slice none 0 0)), .ob B21 25 (tbCells (.slice a3 h.length c3) (.slice a6 kx.length c6)), .sl ((.slice a3 h.length c3)) 29 4 (h.length) (grRow h), .sl ((.slice a6 kx.length c6)) 29 4 (kx.length) (grRow kx), .ob B41 29 (grCells x), .ob B101 29 (([grCells x] : List (List Value)).flatMap id)] (w104.setCell ⟨B21, 1, none⟩ (.slice a6 kx.length c6))) := (HS108.out).set 2 rfl 1 (.slice a6 kx.length c6)
        clear HS108
        generalize w104.setCell ⟨B21, 1, none⟩ (.slice a6 kx.length c6) = w105 at *
        go_roundw
        case rel => exact ⟨i + 1, h, kx, a3, c3, a6, c6, by go_num, HLt.out, (fold_take HXi.out HFo.out).trans HV1.out, HV2.out, HV3.out, by rw [← HKx.out, List.length_append, List.length_singleton]; have := HLen.out; omega, HS109.out.forget (L := [.ob (w.heap.size) 25 (tbCells (.slice a t.held.length cap) (.slice (some ⟨g, off, none⟩) t.wait.length cap2)), .ob b2 25 (tbCells (.slice none 0 0) (.slice none 0 0)), .ob B21 25 (tbCells (.slice a3 h.length c3) (.slice a6 kx.length c6)), .sl ((.slice a3 h.length c3)) 29 4 (h.length) (grRow h), .sl ((.slice a6 kx.length c6)) 29 4 (kx.length) (grRow kx)])⟩
        case measure => simp [intOf]; try (have := HLt.out; omega)
      case false =>
        cases c2
        case true =>
          obtain ⟨hv1, hv2, hv3⟩ := hsy (by rw [hab]; rfl)
          obtain ⟨kx, hkx⟩ : ∃ kx, k ++ [x] = kx := ⟨_, rfl⟩
          rw [hkx] at hv1 hv2 hv3
          have HKx := Lib.hid hkx
          clear hkx
          have HV1 := Lib.hid hv1
          have HV2 := Lib.hid hv2
          have HV3 := Lib.hid hv3
          clear hmv hsy hab hv1 hv2 hv3
          refine wp_region_held_drew (S := fun w' => w'.rangeAt B21 0 (tbCells (.slice a3 h.length c3) (.slice a4 k.length c4)) ∧ w'.rangeAt B41 0 (grCells x)) (by kernel_rfl) (⟨(fun j v hv => by rw [Nat.zero_add]; exact ((HS41.out).drew).at 2 rfl j hv), (fun j v hv => by rw [Nat.zero_add]; exact ((HS41.out).drew).at 5 rfl j hv)⟩) (fun hHeld => ?_)
          refine wpAnyH_take (i := 0) (oi := { dst := some 17, op := Op.fieldAddr 25 (Operand.tmp 3) 0, type := 0, pos := "locks.go:136", after := #[], guard := none }) (v := ?q301v) rfl (by kernel_rfl) (by kernel_rfl) (by kernel_rfl) (fun _ _ _ h => h) (Or.inl ⟨by rfl, ?q301h⟩) hHeld ?q301r
          case q301h => (intro wq hSw; clear hSw; go_simp; try with_reducible rfl)
          try simp only [Act.put, List.setIfInBounds_toArray, List.set_cons_zero, List.set_cons_succ]
          refine wpAnyH_take (i := 1) (oi := { dst := some 18, op := Op.load 23 (Operand.tmp 17), type := 23, pos := "locks.go:136", after := #[{ on := 0, ground := Ground.data }], guard := none }) (v := .slice a3 h.length c3) rfl (by kernel_rfl) (by kernel_rfl) (by kernel_rfl) (fun _ _ _ h => h) (Or.inl ⟨by rfl, ?q302h⟩) hHeld ?q302r
          case q302h => (intro wq hSw; have lq := (hSw.1) 0 (.slice a3 h.length c3) rfl; simp only [Nat.zero_add] at lq; clear hSw; go_simp; try with_reducible rfl)
          try simp only [Act.put, List.setIfInBounds_toArray, List.set_cons_zero, List.set_cons_succ]
          refine wpAnyH_take (i := 2) (oi := { dst := some 19, op := Op.fieldAddr 29 (Operand.tmp 5) 1, type := 0, pos := "locks.go:136", after := #[], guard := none }) (v := ?q303v) rfl (by kernel_rfl) (by kernel_rfl) (by kernel_rfl) (fun _ _ _ h => h) (Or.inl ⟨by rfl, ?q303h⟩) hHeld ?q303r
          case q303h => (intro wq hSw; clear hSw; go_simp; try with_reducible rfl)
          try simp only [Act.put, List.setIfInBounds_toArray, List.set_cons_zero, List.set_cons_succ]
          refine wpAnyH_take (i := 3) (oi := { dst := some 20, op := Op.load 27 (Operand.tmp 19), type := 27, pos := "locks.go:136", after := #[{ on := 2, ground := Ground.data }], guard := none }) rfl (by kernel_rfl) (by kernel_rfl) (by kernel_rfl) (fun _ _ _ h => h) (yieldsIf_load_mid (by rfl) 27 (.tmp 19) rfl B41 (1) rfl (lkCells x.lock) _ (fun _ h => range_part (h.2) (mid_lk x)) HUK.out rfl (info_lk)) hHeld ?_
          try simp only [Act.put, List.setIfInBounds_toArray, List.set_cons_zero, List.set_cons_succ]
          refine wpAnyH_take (i := 5) (oi := { dst := some 22, op := Op.load 29 (Operand.tmp 5), type := 29, pos := "locks.go:136", after := #[], guard := none }) rfl (by kernel_rfl) (by kernel_rfl) (by kernel_rfl) (fun _ _ _ h => h) (yieldsIf_load_mid (by rfl) 29 (.tmp 5) rfl B41 (0) rfl (grCells x) _ (fun _ h => h.2) HUG.out rfl (info_gr)) hHeld ?_
          try simp only [Act.put, List.setIfInBounds_toArray, List.set_cons_zero, List.set_cons_succ]
          refine wpAnyH_ready (rs := [4]) (by kernel_rfl) (by simp) ?_
          refine AllReadyH.cons (o := { dst := some 21, op := Op.call { callee := Callee.value (Operand.func 65), args := #[Operand.tmp 18, Operand.tmp 20], argTypes := #[23, 27] }, type := 23, pos := "locks.go:136", after := #[{ on := 1, ground := Ground.data }, { on := 3, ground := Ground.data }], guard := none }) rfl (fun K hK => ?_) (AllReadyH.nil)
          go_simp
          go_wp2_with (go_at_call 65; refine (holders_own x.lock h _ w.heap.size _ HHk.out (((HS41.out).drew).own 3 rfl) (by have := HLh.out; omega)).mono ?_; rintro e w301 ⟨vm, m, Rm, rfl, hrm, him, hml, hms, hma, hb⟩)
          have HRm := Lib.hid hrm
          have HIm := Lib.hid him
          have HMl := Lib.hid hml
          have HMs := Lib.hid hms
          have HMa := Lib.hid ((hma x ⟨rfl, rfl⟩).trans HC1.out)
          have HS301 : Hid (Hp w [.ob (w.heap.size) 25 (tbCells (.slice a t.held.length cap) (.slice (some ⟨g, off, none⟩) t.wait.length cap2)), .ob b2 25 (tbCells (.slice none 0 0) (.slice none 0 0)), .ob B21 25 (tbCells (.slice a3 h.length c3) (.slice a4 k.length c4)), .sl ((.slice a3 h.length c3)) 29 4 (h.length) (grRow h), .sl ((.slice a4 k.length c4)) 29 4 (k.length) (grRow k), .ob B41 29 (grCells x)] w301) := ((HS41.out).drew).calls hb
          refine hK.out _ _ (⟨(fun j v hv => by rw [Nat.zero_add]; exact (HS301.out).at 2 rfl j hv), (fun j v hv => by rw [Nat.zero_add]; exact (HS301.out).at 5 rfl j hv)⟩) (fun hHeld => ?_)
          clear hK K hb hrm him hml hms hma
          try simp only [Act.put, List.setIfInBounds_toArray, List.set_cons_zero, List.set_cons_succ]
          refine wpAnyH_ready (rs := [6]) (by kernel_rfl) (by simp) ?_
          refine AllReadyH.cons (o := { dst := some 23, op := Op.call { callee := Callee.value (Operand.func 66), args := #[Operand.tmp 22], argTypes := #[29] }, type := 69, pos := "locks.go:136", after := #[{ on := 5, ground := Ground.data }, { on := 4, ground := Ground.chain }], guard := none }) rfl (fun K hK => ?_) (AllReadyH.nil)
          go_simp
          go_wp2_with (go_at_call 66; refine (against_any x _).mono ?_; rintro e w302 ⟨bf1, rfl, hin, hnw, hb⟩)
          have HIm2 := Lib.hid (HIm.out.below hb)
          clear HIm
          have HS302 : Hid (Hp w [.ob (w.heap.size) 25 (tbCells (.slice a t.held.length cap) (.slice (some ⟨g, off, none⟩) t.wait.length cap2)), .ob b2 25 (tbCells (.slice none 0 0) (.slice none 0 0)), .ob B21 25 (tbCells (.slice a3 h.length c3) (.slice a4 k.length c4)), .sl ((.slice a3 h.length c3)) 29 4 (h.length) (grRow h), .sl ((.slice a4 k.length c4)) 29 4 (k.length) (grRow k), .ob B41 29 (grCells x), .rd [(bf1, 0, grCells x)]] w302) := (HS301.out).addrd hb [(bf1, 0, grCells x)] hin (fun r hr => .inl (by obtain rfl := List.mem_singleton.1 hr; exact hnw))
          refine hK.out _ _ (⟨(fun j v hv => by rw [Nat.zero_add]; exact (HS302.out).at 2 rfl j hv), (fun j v hv => by rw [Nat.zero_add]; exact (HS302.out).at 5 rfl j hv)⟩) (fun hHeld => ?_)
          clear hK K hb hin hnw
          try simp only [Act.put, List.setIfInBounds_toArray, List.set_cons_zero, List.set_cons_succ]
          refine wpAnyH_ready (rs := [7]) (by kernel_rfl) (by simp) ?_
          refine AllReadyH.cons (o := { dst := some 24, op := Op.call { callee := Callee.value (Operand.func 64), args := #[Operand.tmp 21, Operand.tmp 23], argTypes := #[23, 69] }, type := 4, pos := "locks.go:136", after := #[{ on := 4, ground := Ground.data }, { on := 6, ground := Ground.data }, { on := 6, ground := Ground.chain }], guard := none }) rfl (fun K hK => ?_) (AllReadyH.nil)
          go_simp
          go_wp2_with (go_at_call 64; refine (contains_conf x m vm Rm _ _ HGx.out (fun y hy => HGh.out y (HMs.out y hy)) HRm.out HIm2.out ((HS302.out).reads 6 rfl) (by have h1 := HMl.out; have h2 := HLh.out; omega) false HMa.out).mono ?_; rintro e w303 ⟨rfl, hb⟩)
          have HS303 : Hid (Hp w [.ob (w.heap.size) 25 (tbCells (.slice a t.held.length cap) (.slice (some ⟨g, off, none⟩) t.wait.length cap2)), .ob b2 25 (tbCells (.slice none 0 0) (.slice none 0 0)), .ob B21 25 (tbCells (.slice a3 h.length c3) (.slice a4 k.length c4)), .sl ((.slice a3 h.length c3)) 29 4 (h.length) (grRow h), .sl ((.slice a4 k.length c4)) 29 4 (k.length) (grRow k), .ob B41 29 (grCells x), .rd [(bf1, 0, grCells x)]] w303) := (HS302.out).calls hb
          refine hK.out _ _ (⟨(fun j v hv => by rw [Nat.zero_add]; exact (HS303.out).at 2 rfl j hv), (fun j v hv => by rw [Nat.zero_add]; exact (HS303.out).at 5 rfl j hv)⟩) (fun hHeld => ?_)
          clear hK K hb
          try simp only [Act.put, List.setIfInBounds_toArray, List.set_cons_zero, List.set_cons_succ]
          refine wpAnyH_take (i := 8) (oi := { dst := some 25, op := Op.move (Operand.tmp 24), type := 4, pos := "locks.go:136", after := #[{ on := 7, ground := Ground.data }, { on := 7, ground := Ground.chain }], guard := none }) (v := ?q306v) rfl (by kernel_rfl) (by kernel_rfl) (by kernel_rfl) (fun _ _ _ h => h) (Or.inl ⟨by rfl, ?q306h⟩) hHeld ?q306r
          case q306h => (intro wq hSw; clear hSw; go_simp; try with_reducible rfl)
          try simp only [Act.put, List.setIfInBounds_toArray, List.set_cons_zero, List.set_cons_succ]
          refine wpAnyH_take (i := 9) (oi := { dst := some 26, op := Op.fieldAddr 25 (Operand.tmp 3) 1, type := 0, pos := "locks.go:136", after := #[{ on := 8, ground := Ground.guard }], guard := some (8, false) }) (v := ?q307v) rfl (by kernel_rfl) (by kernel_rfl) (by kernel_rfl) (fun _ _ _ h => h) (Or.inl ⟨by rfl, ?q307h⟩) hHeld ?q307r
          case q307h => (intro wq hSw; clear hSw; go_simp; try with_reducible rfl)
          try simp only [Act.put, List.setIfInBounds_toArray, List.set_cons_zero, List.set_cons_succ]
          refine wpAnyH_take (i := 10) (oi := { dst := some 27, op := Op.load 23 (Operand.tmp 26), type := 23, pos := "locks.go:136", after := #[{ on := 9, ground := Ground.data }, { on := 8, ground := Ground.guard }], guard := some (8, false) }) (v := .slice a4 k.length c4) rfl (by kernel_rfl) (by kernel_rfl) (by kernel_rfl) (fun _ _ _ h => h) (Or.inl ⟨by rfl, ?q308h⟩) hHeld ?q308r
          case q308h => (intro wq hSw; have lq := (hSw.1) 1 (.slice a4 k.length c4) rfl; simp only [Nat.zero_add] at lq; clear hSw; go_simp; try with_reducible rfl)
          try simp only [Act.put, List.setIfInBounds_toArray, List.set_cons_zero, List.set_cons_succ]
          refine wpAnyH_take (i := 11) (oi := { dst := some 28, op := Op.load 29 (Operand.tmp 5), type := 29, pos := "locks.go:136", after := #[{ on := 8, ground := Ground.guard }], guard := some (8, false) }) rfl (by kernel_rfl) (by kernel_rfl) (by kernel_rfl) (fun _ _ _ h => h) (yieldsIf_load_mid (by rfl) 29 (.tmp 5) rfl B41 (0) rfl (grCells x) _ (fun _ h => h.2) HUG.out rfl (info_gr)) hHeld ?_
          try simp only [Act.put, List.setIfInBounds_toArray, List.set_cons_zero, List.set_cons_succ]
          refine wpAnyH_ready (rs := [12]) (by kernel_rfl) (by simp) ?_
          refine AllReadyH.cons (o := { dst := some 29, op := Op.call { callee := Callee.value (Operand.func 66), args := #[Operand.tmp 28], argTypes := #[29] }, type := 69, pos := "locks.go:136", after := #[{ on := 11, ground := Ground.data }, { on := 8, ground := Ground.chain }, { on := 8, ground := Ground.guard }], guard := some (8, false) }) rfl (fun K hK => ?_) (AllReadyH.nil)
          go_simp
          go_wp2_with (go_at_call 66; refine (against_any x _).mono ?_; rintro e w304 ⟨bf2, rfl, hin, hnw, hb⟩)
          have HS304 : Hid (Hp w [.ob (w.heap.size) 25 (tbCells (.slice a t.held.length cap) (.slice (some ⟨g, off, none⟩) t.wait.length cap2)), .ob b2 25 (tbCells (.slice none 0 0) (.slice none 0 0)), .ob B21 25 (tbCells (.slice a3 h.length c3) (.slice a4 k.length c4)), .sl ((.slice a3 h.length c3)) 29 4 (h.length) (grRow h), .sl ((.slice a4 k.length c4)) 29 4 (k.length) (grRow k), .ob B41 29 (grCells x), .rd [(bf1, 0, grCells x)], .rd [(bf2, 0, grCells x)]] w304) := (HS303.out).addrd hb [(bf2, 0, grCells x)] hin (fun r hr => .inl (by obtain rfl := List.mem_singleton.1 hr; exact hnw))
          refine hK.out _ _ (⟨(fun j v hv => by rw [Nat.zero_add]; exact (HS304.out).at 2 rfl j hv), (fun j v hv => by rw [Nat.zero_add]; exact (HS304.out).at 5 rfl j hv)⟩) (fun hHeld => ?_)
          clear hK K hb hin hnw
          try simp only [Act.put, List.setIfInBounds_toArray, List.set_cons_zero, List.set_cons_succ]
          refine wpAnyH_ready (rs := [13]) (by kernel_rfl) (by simp) ?_
          refine AllReadyH.cons (o := { dst := some 30, op := Op.call { callee := Callee.value (Operand.func 64), args := #[Operand.tmp 27, Operand.tmp 29], argTypes := #[23, 69] }, type := 4, pos := "locks.go:136", after := #[{ on := 10, ground := Ground.data }, { on := 12, ground := Ground.data }, { on := 12, ground := Ground.chain }, { on := 8, ground := Ground.guard }], guard := some (8, false) }) rfl (fun K hK => ?_) (AllReadyH.nil)
          go_simp
          go_wp2_with (go_at_call 64; refine (contains_own x k _ w.heap.size _ _ HGx.out HGk.out ((HS304.out).own 4 rfl) ((HS304.out).reads 7 rfl) (by have := HLh.out; omega) true HC2.out).mono ?_; rintro e w305 ⟨rfl, hb⟩)
          have HS305 : Hid (Hp w [.ob (w.heap.size) 25 (tbCells (.slice a t.held.length cap) (.slice (some ⟨g, off, none⟩) t.wait.length cap2)), .ob b2 25 (tbCells (.slice none 0 0) (.slice none 0 0)), .ob B21 25 (tbCells (.slice a3 h.length c3) (.slice a4 k.length c4)), .sl ((.slice a3 h.length c3)) 29 4 (h.length) (grRow h), .sl ((.slice a4 k.length c4)) 29 4 (k.length) (grRow k), .ob B41 29 (grCells x), .rd [(bf1, 0, grCells x)], .rd [(bf2, 0, grCells x)]] w305) := (HS304.out).calls hb
          refine hK.out _ _ (⟨(fun j v hv => by rw [Nat.zero_add]; exact (HS305.out).at 2 rfl j hv), (fun j v hv => by rw [Nat.zero_add]; exact (HS305.out).at 5 rfl j hv)⟩) (fun hHeld => ?_)
          clear hK K hb
          try simp only [Act.put, List.setIfInBounds_toArray, List.set_cons_zero, List.set_cons_succ]
          refine wpAnyH_take (i := 14) (oi := { dst := some 31, op := Op.pick (Operand.tmp 25) (Operand.const (Value.bool true)) (Operand.tmp 30), type := 4, pos := "locks.go:136", after := #[{ on := 8, ground := Ground.data }, { on := 13, ground := Ground.data }], guard := none }) (v := ?q310v) rfl (by kernel_rfl) (by kernel_rfl) (by kernel_rfl) (fun _ _ _ h => h) (Or.inl ⟨by rfl, ?q310h⟩) hHeld ?q310r
          case q310h => (intro wq hSw; clear hSw; go_simp; try with_reducible rfl)
          try simp only [Act.put, List.setIfInBounds_toArray, List.set_cons_zero, List.set_cons_succ]
          refine wpAnyH_done (by kernel_rfl) ?_ _
          clear hHeld
          have HS306 : Hid (Hp w [.ob (w.heap.size) 25 (tbCells (.slice a t.held.length cap) (.slice (some ⟨g, off, none⟩) t.wait.length cap2)), .ob b2 25 (tbCells (.slice none 0 0) (.slice none 0 0)), .ob B21 25 (tbCells (.slice a3 h.length c3) (.slice a4 k.length c4)), .sl ((.slice a3 h.length c3)) 29 4 (h.length) (grRow h), .sl ((.slice a4 k.length c4)) 29 4 (k.length) (grRow k), .ob B41 29 (grCells x)] w305) := HS305.out.pull [0, 1, 2, 3, 4, 5] rfl (pull_nd HS305.out.nd [0, 1, 2, 3, 4, 5] rfl (by decide))
          clear HS305
          have q1 : w305.cell? ⟨B21, 1, none⟩ = some (.slice a4 k.length c4) := (HS306.out).at 2 rfl 1 rfl
          go_wp2_with (first | ((with_reducible refine wpList_load_ob 29 (.tmp 5) B41 (grCells x) 29 HUG.out ?_ ?_ ?_ ?_ ?_); (exact rfl); (exact (HS306.out).get 5 rfl); (exact rfl); (exact info_gr); simp only [Act.put, List.setIfInBounds_toArray, List.set_cons_zero, List.set_cons_succ]) | ((with_reducible refine wpList_build_obs 23 1 elem_gr HUX.out [grCells x] ?_ ?_ ?_ ?_ ?_ ?_); (exact (List.forall_mem_cons.2 ⟨rfl, (fun _ h => absurd h List.not_mem_nil)⟩)); (exact Nat.succ_pos _); (simp only [List.length_cons, List.length_nil]; omega); (exact rfl); (simp only [List.map_toArray, List.map_cons, List.map_nil, List.zipIdx_cons, List.zipIdx_nil]; exact rfl); simp only [Act.put, List.setIfInBounds_toArray, List.set_cons_zero, List.set_cons_succ]) | ((with_reducible refine wpList_append_hp ((HS306.out).put 29 (([grCells x] : List (List Value)).flatMap id)) (.tmp 33) (.tmp 35) 23 4 (v := (.slice a4 k.length c4)) (e := 29) (z := 4) (n := k.length) (xs := grRow k) ?_ 6 (b := (w305.heap.size)) (t' := 29) (ys := ([grCells x] : List (List Value)).flatMap id) ?_ HUX.out elem_gr 1 1 ?_ ?_ ?_ ?_ ?_ ?_); (exact rfl); (exact rfl); (exact rfl); (exact rfl); (exact rfl); (exact (by intro u hu; simp only [List.flatMap_cons, List.flatMap_nil, List.append_nil, id] at hu; exact one_gr _ u hu)); (exact (by have := HLh.out; omega))))
          intro v306 w306 hs hnil
          have hs2 : Hp w [.ob (w.heap.size) 25 (tbCells (.slice a t.held.length cap) (.slice (some ⟨g, off, none⟩) t.wait.length cap2)), .ob b2 25 (tbCells (.slice none 0 0) (.slice none 0 0)), .ob B21 25 (tbCells (.slice a3 h.length c3) (.slice a4 k.length c4)), .sl ((.slice a3 h.length c3)) 29 4 (h.length) (grRow h), .sl v306 29 4 (kx.length) (grRow kx), .ob B41 29 (grCells x), .ob (w305.heap.size) 29 (([grCells x] : List (List Value)).flatMap id)] w306 := by rw [← HKx.out, grRow_append, grRow_one, List.length_append]; exact hs
          have HS308 : Hid (Hp w [.ob (w.heap.size) 25 (tbCells (.slice a t.held.length cap) (.slice (some ⟨g, off, none⟩) t.wait.length cap2)), .ob b2 25 (tbCells (.slice none 0 0) (.slice none 0 0)), .ob B21 25 (tbCells (.slice a3 h.length c3) (.slice a4 k.length c4)), .sl ((.slice a3 h.length c3)) 29 4 (h.length) (grRow h), .sl v306 29 4 (kx.length) (grRow kx), .ob B41 29 (grCells x), .ob (w305.heap.size) 29 (([grCells x] : List (List Value)).flatMap id)] w306) := hs2
          clear hs hs2
          clear HS306
          generalize w305.heap.size = B301 at *
          clear q1
          obtain ⟨a6, c6, rfl⟩ := own_slice (HS308.out.own 4 rfl)
          have q5 : w306.cell? ⟨B21, 1, none⟩ = some (.slice a4 k.length c4) := (HS308.out).at 2 rfl 1 rfl
          have f5 : w306.frozen? ⟨B21, 1, none⟩ = false := (HS308.out).frozen 2 rfl 1
          go_wp2_with fail
          clear q5 f5
          have HS309 : Hid (Hp w [.ob (w.heap.size) 25 (tbCells (.slice a t.held.length cap) (.slice (some ⟨g, off, none⟩) t.wait.length cap2)), .ob b2 25 (tbCells (.slice none 0 0) (.slice none 0 0)), .ob B21 25 (tbCells (.slice a3 h.length c3) (.slice a6 kx.length c6)), .sl ((.slice a3 h.length c3)) 29 4 (h.length) (grRow h), .sl ((.slice a6 kx.length c6)) 29 4 (kx.length) (grRow kx), .ob B41 29 (grCells x), .ob B301 29 (([grCells x] : List (List Value)).flatMap id)] (w306.setCell ⟨B21, 1, none⟩ (.slice a6 kx.length c6))) := (HS308.out).set 2 rfl 1 (.slice a6 kx.length c6)
          clear HS308
          generalize w306.setCell ⟨B21, 1, none⟩ (.slice a6 kx.length c6) = w307 at *
          go_roundw
          case rel => exact ⟨i + 1, h, kx, a3, c3, a6, c6, by go_num, HLt.out, (fold_take HXi.out HFo.out).trans HV1.out, HV2.out, HV3.out, by rw [← HKx.out, List.length_append, List.length_singleton]; have := HLen.out; omega, HS309.out.forget (L := [.ob (w.heap.size) 25 (tbCells (.slice a t.held.length cap) (.slice (some ⟨g, off, none⟩) t.wait.length cap2)), .ob b2 25 (tbCells (.slice none 0 0) (.slice none 0 0)), .ob B21 25 (tbCells (.slice a3 h.length c3) (.slice a6 kx.length c6)), .sl ((.slice a3 h.length c3)) 29 4 (h.length) (grRow h), .sl ((.slice a6 kx.length c6)) 29 4 (kx.length) (grRow kx)])⟩
          case measure => simp [intOf]; try (have := HLt.out; omega)
        case false =>
          obtain ⟨hv1, hv2, hv3⟩ := hmv (by rw [hab]; rfl)
          have HV1 := Lib.hid hv1
          have HV2 := Lib.hid hv2
          have HV3 := Lib.hid hv3
          clear hmv hsy hab hv1 hv2 hv3
          refine wp_region_held_drew (S := fun w' => w'.rangeAt B21 0 (tbCells (.slice a3 h.length c3) (.slice a4 k.length c4)) ∧ w'.rangeAt B41 0 (grCells x)) (by kernel_rfl) (⟨(fun j v hv => by rw [Nat.zero_add]; exact ((HS41.out).drew).at 2 rfl j hv), (fun j v hv => by rw [Nat.zero_add]; exact ((HS41.out).drew).at 5 rfl j hv)⟩) (fun hHeld => ?_)
          refine wpAnyH_take (i := 0) (oi := { dst := some 17, op := Op.fieldAddr 25 (Operand.tmp 3) 0, type := 0, pos := "locks.go:136", after := #[], guard := none }) (v := ?q501v) rfl (by kernel_rfl) (by kernel_rfl) (by kernel_rfl) (fun _ _ _ h => h) (Or.inl ⟨by rfl, ?q501h⟩) hHeld ?q501r
          case q501h => (intro wq hSw; clear hSw; go_simp; try with_reducible rfl)
          try simp only [Act.put, List.setIfInBounds_toArray, List.set_cons_zero, List.set_cons_succ]
          refine wpAnyH_take (i := 1) (oi := { dst := some 18, op := Op.load 23 (Operand.tmp 17), type := 23, pos := "locks.go:136", after := #[{ on := 0, ground := Ground.data }], guard := none }) (v := .slice a3 h.length c3) rfl (by kernel_rfl) (by kernel_rfl) (by kernel_rfl) (fun _ _ _ h => h) (Or.inl ⟨by rfl, ?q502h⟩) hHeld ?q502r
          case q502h => (intro wq hSw; have lq := (hSw.1) 0 (.slice a3 h.length c3) rfl; simp only [Nat.zero_add] at lq; clear hSw; go_simp; try with_reducible rfl)
          try simp only [Act.put, List.setIfInBounds_toArray, List.set_cons_zero, List.set_cons_succ]
          refine wpAnyH_take (i := 2) (oi := { dst := some 19, op := Op.fieldAddr 29 (Operand.tmp 5) 1, type := 0, pos := "locks.go:136", after := #[], guard := none }) (v := ?q503v) rfl (by kernel_rfl) (by kernel_rfl) (by kernel_rfl) (fun _ _ _ h => h) (Or.inl ⟨by rfl, ?q503h⟩) hHeld ?q503r
          case q503h => (intro wq hSw; clear hSw; go_simp; try with_reducible rfl)
          try simp only [Act.put, List.setIfInBounds_toArray, List.set_cons_zero, List.set_cons_succ]
          refine wpAnyH_take (i := 3) (oi := { dst := some 20, op := Op.load 27 (Operand.tmp 19), type := 27, pos := "locks.go:136", after := #[{ on := 2, ground := Ground.data }], guard := none }) rfl (by kernel_rfl) (by kernel_rfl) (by kernel_rfl) (fun _ _ _ h => h) (yieldsIf_load_mid (by rfl) 27 (.tmp 19) rfl B41 (1) rfl (lkCells x.lock) _ (fun _ h => range_part (h.2) (mid_lk x)) HUK.out rfl (info_lk)) hHeld ?_
          try simp only [Act.put, List.setIfInBounds_toArray, List.set_cons_zero, List.set_cons_succ]
          refine wpAnyH_take (i := 5) (oi := { dst := some 22, op := Op.load 29 (Operand.tmp 5), type := 29, pos := "locks.go:136", after := #[], guard := none }) rfl (by kernel_rfl) (by kernel_rfl) (by kernel_rfl) (fun _ _ _ h => h) (yieldsIf_load_mid (by rfl) 29 (.tmp 5) rfl B41 (0) rfl (grCells x) _ (fun _ h => h.2) HUG.out rfl (info_gr)) hHeld ?_
          try simp only [Act.put, List.setIfInBounds_toArray, List.set_cons_zero, List.set_cons_succ]
          refine wpAnyH_ready (rs := [4]) (by kernel_rfl) (by simp) ?_
          refine AllReadyH.cons (o := { dst := some 21, op := Op.call { callee := Callee.value (Operand.func 65), args := #[Operand.tmp 18, Operand.tmp 20], argTypes := #[23, 27] }, type := 23, pos := "locks.go:136", after := #[{ on := 1, ground := Ground.data }, { on := 3, ground := Ground.data }], guard := none }) rfl (fun K hK => ?_) (AllReadyH.nil)
          go_simp
          go_wp2_with (go_at_call 65; refine (holders_own x.lock h _ w.heap.size _ HHk.out (((HS41.out).drew).own 3 rfl) (by have := HLh.out; omega)).mono ?_; rintro e w501 ⟨vm, m, Rm, rfl, hrm, him, hml, hms, hma, hb⟩)
          have HRm := Lib.hid hrm
          have HIm := Lib.hid him
          have HMl := Lib.hid hml
          have HMs := Lib.hid hms
          have HMa := Lib.hid ((hma x ⟨rfl, rfl⟩).trans HC1.out)
          have HS501 : Hid (Hp w [.ob (w.heap.size) 25 (tbCells (.slice a t.held.length cap) (.slice (some ⟨g, off, none⟩) t.wait.length cap2)), .ob b2 25 (tbCells (.slice none 0 0) (.slice none 0 0)), .ob B21 25 (tbCells (.slice a3 h.length c3) (.slice a4 k.length c4)), .sl ((.slice a3 h.length c3)) 29 4 (h.length) (grRow h), .sl ((.slice a4 k.length c4)) 29 4 (k.length) (grRow k), .ob B41 29 (grCells x)] w501) := ((HS41.out).drew).calls hb
          refine hK.out _ _ (⟨(fun j v hv => by rw [Nat.zero_add]; exact (HS501.out).at 2 rfl j hv), (fun j v hv => by rw [Nat.zero_add]; exact (HS501.out).at 5 rfl j hv)⟩) (fun hHeld => ?_)
          clear hK K hb hrm him hml hms hma
          try simp only [Act.put, List.setIfInBounds_toArray, List.set_cons_zero, List.set_cons_succ]
          refine wpAnyH_ready (rs := [6]) (by kernel_rfl) (by simp) ?_
          refine AllReadyH.cons (o := { dst := some 23, op := Op.call { callee := Callee.value (Operand.func 66), args := #[Operand.tmp 22], argTypes := #[29] }, type := 69, pos := "locks.go:136", after := #[{ on := 5, ground := Ground.data }, { on := 4, ground := Ground.chain }], guard := none }) rfl (fun K hK => ?_) (AllReadyH.nil)
          go_simp
          go_wp2_with (go_at_call 66; refine (against_any x _).mono ?_; rintro e w502 ⟨bf1, rfl, hin, hnw, hb⟩)
          have HIm2 := Lib.hid (HIm.out.below hb)
          clear HIm
          have HS502 : Hid (Hp w [.ob (w.heap.size) 25 (tbCells (.slice a t.held.length cap) (.slice (some ⟨g, off, none⟩) t.wait.length cap2)), .ob b2 25 (tbCells (.slice none 0 0) (.slice none 0 0)), .ob B21 25 (tbCells (.slice a3 h.length c3) (.slice a4 k.length c4)), .sl ((.slice a3 h.length c3)) 29 4 (h.length) (grRow h), .sl ((.slice a4 k.length c4)) 29 4 (k.length) (grRow k), .ob B41 29 (grCells x), .rd [(bf1, 0, grCells x)]] w502) := (HS501.out).addrd hb [(bf1, 0, grCells x)] hin (fun r hr => .inl (by obtain rfl := List.mem_singleton.1 hr; exact hnw))
          refine hK.out _ _ (⟨(fun j v hv => by rw [Nat.zero_add]; exact (HS502.out).at 2 rfl j hv), (fun j v hv => by rw [Nat.zero_add]; exact (HS502.out).at 5 rfl j hv)⟩) (fun hHeld => ?_)
          clear hK K hb hin hnw
          try simp only [Act.put, List.setIfInBounds_toArray, List.set_cons_zero, List.set_cons_succ]
          refine wpAnyH_ready (rs := [7]) (by kernel_rfl) (by simp) ?_
          refine AllReadyH.cons (o := { dst := some 24, op := Op.call { callee := Callee.value (Operand.func 64), args := #[Operand.tmp 21, Operand.tmp 23], argTypes := #[23, 69] }, type := 4, pos := "locks.go:136", after := #[{ on := 4, ground := Ground.data }, { on := 6, ground := Ground.data }, { on := 6, ground := Ground.chain }], guard := none }) rfl (fun K hK => ?_) (AllReadyH.nil)
          go_simp
          go_wp2_with (go_at_call 64; refine (contains_conf x m vm Rm _ _ HGx.out (fun y hy => HGh.out y (HMs.out y hy)) HRm.out HIm2.out ((HS502.out).reads 6 rfl) (by have h1 := HMl.out; have h2 := HLh.out; omega) false HMa.out).mono ?_; rintro e w503 ⟨rfl, hb⟩)
          have HS503 : Hid (Hp w [.ob (w.heap.size) 25 (tbCells (.slice a t.held.length cap) (.slice (some ⟨g, off, none⟩) t.wait.length cap2)), .ob b2 25 (tbCells (.slice none 0 0) (.slice none 0 0)), .ob B21 25 (tbCells (.slice a3 h.length c3) (.slice a4 k.length c4)), .sl ((.slice a3 h.length c3)) 29 4 (h.length) (grRow h), .sl ((.slice a4 k.length c4)) 29 4 (k.length) (grRow k), .ob B41 29 (grCells x), .rd [(bf1, 0, grCells x)]] w503) := (HS502.out).calls hb
          refine hK.out _ _ (⟨(fun j v hv => by rw [Nat.zero_add]; exact (HS503.out).at 2 rfl j hv), (fun j v hv => by rw [Nat.zero_add]; exact (HS503.out).at 5 rfl j hv)⟩) (fun hHeld => ?_)
          clear hK K hb
          try simp only [Act.put, List.setIfInBounds_toArray, List.set_cons_zero, List.set_cons_succ]
          refine wpAnyH_take (i := 8) (oi := { dst := some 25, op := Op.move (Operand.tmp 24), type := 4, pos := "locks.go:136", after := #[{ on := 7, ground := Ground.data }, { on := 7, ground := Ground.chain }], guard := none }) (v := ?q506v) rfl (by kernel_rfl) (by kernel_rfl) (by kernel_rfl) (fun _ _ _ h => h) (Or.inl ⟨by rfl, ?q506h⟩) hHeld ?q506r
          case q506h => (intro wq hSw; clear hSw; go_simp; try with_reducible rfl)
          try simp only [Act.put, List.setIfInBounds_toArray, List.set_cons_zero, List.set_cons_succ]
          refine wpAnyH_take (i := 9) (oi := { dst := some 26, op := Op.fieldAddr 25 (Operand.tmp 3) 1, type := 0, pos := "locks.go:136", after := #[{ on := 8, ground := Ground.guard }], guard := some (8, false) }) (v := ?q507v) rfl (by kernel_rfl) (by kernel_rfl) (by kernel_rfl) (fun _ _ _ h => h) (Or.inl ⟨by rfl, ?q507h⟩) hHeld ?q507r
          case q507h => (intro wq hSw; clear hSw; go_simp; try with_reducible rfl)
          try simp only [Act.put, List.setIfInBounds_toArray, List.set_cons_zero, List.set_cons_succ]
          refine wpAnyH_take (i := 10) (oi := { dst := some 27, op := Op.load 23 (Operand.tmp 26), type := 23, pos := "locks.go:136", after := #[{ on := 9, ground := Ground.data }, { on := 8, ground := Ground.guard }], guard := some (8, false) }) (v := .slice a4 k.length c4) rfl (by kernel_rfl) (by kernel_rfl) (by kernel_rfl) (fun _ _ _ h => h) (Or.inl ⟨by rfl, ?q508h⟩) hHeld ?q508r
          case q508h => (intro wq hSw; have lq := (hSw.1) 1 (.slice a4 k.length c4) rfl; simp only [Nat.zero_add] at lq; clear hSw; go_simp; try with_reducible rfl)
          try simp only [Act.put, List.setIfInBounds_toArray, List.set_cons_zero, List.set_cons_succ]
          refine wpAnyH_take (i := 11) (oi := { dst := some 28, op := Op.load 29 (Operand.tmp 5), type := 29, pos := "locks.go:136", after := #[{ on := 8, ground := Ground.guard }], guard := some (8, false) }) rfl (by kernel_rfl) (by kernel_rfl) (by kernel_rfl) (fun _ _ _ h => h) (yieldsIf_load_mid (by rfl) 29 (.tmp 5) rfl B41 (0) rfl (grCells x) _ (fun _ h => h.2) HUG.out rfl (info_gr)) hHeld ?_
          try simp only [Act.put, List.setIfInBounds_toArray, List.set_cons_zero, List.set_cons_succ]
          refine wpAnyH_ready (rs := [12]) (by kernel_rfl) (by simp) ?_
          refine AllReadyH.cons (o := { dst := some 29, op := Op.call { callee := Callee.value (Operand.func 66), args := #[Operand.tmp 28], argTypes := #[29] }, type := 69, pos := "locks.go:136", after := #[{ on := 11, ground := Ground.data }, { on := 8, ground := Ground.chain }, { on := 8, ground := Ground.guard }], guard := some (8, false) }) rfl (fun K hK => ?_) (AllReadyH.nil)
          go_simp
          go_wp2_with (go_at_call 66; refine (against_any x _).mono ?_; rintro e w504 ⟨bf2, rfl, hin, hnw, hb⟩)
          have HS504 : Hid (Hp w [.ob (w.heap.size) 25 (tbCells (.slice a t.held.length cap) (.slice (some ⟨g, off, none⟩) t.wait.length cap2)), .ob b2 25 (tbCells (.slice none 0 0) (.slice none 0 0)), .ob B21 25 (tbCells (.slice a3 h.length c3) (.slice a4 k.length c4)), .sl ((.slice a3 h.length c3)) 29 4 (h.length) (grRow h), .sl ((.slice a4 k.length c4)) 29 4 (k.length) (grRow k), .ob B41 29 (grCells x), .rd [(bf1, 0, grCells x)], .rd [(bf2, 0, grCells x)]] w504) := (HS503.out).addrd hb [(bf2, 0, grCells x)] hin (fun r hr => .inl (by obtain rfl := List.mem_singleton.1 hr; exact hnw))
          refine hK.out _ _ (⟨(fun j v hv => by rw [Nat.zero_add]; exact (HS504.out).at 2 rfl j hv), (fun j v hv => by rw [Nat.zero_add]; exact (HS504.out).at 5 rfl j hv)⟩) (fun hHeld => ?_)
          clear hK K hb hin hnw
          try simp only [Act.put, List.setIfInBounds_toArray, List.set_cons_zero, List.set_cons_succ]
          refine wpAnyH_ready (rs := [13]) (by kernel_rfl) (by simp) ?_
          refine AllReadyH.cons (o := { dst := some 30, op := Op.call { callee := Callee.value (Operand.func 64), args := #[Operand.tmp 27, Operand.tmp 29], argTypes := #[23, 69] }, type := 4, pos := "locks.go:136", after := #[{ on := 10, ground := Ground.data }, { on := 12, ground := Ground.data }, { on := 12, ground := Ground.chain }, { on := 8, ground := Ground.guard }], guard := some (8, false) }) rfl (fun K hK => ?_) (AllReadyH.nil)
          go_simp
          go_wp2_with (go_at_call 64; refine (contains_own x k _ w.heap.size _ _ HGx.out HGk.out ((HS504.out).own 4 rfl) ((HS504.out).reads 7 rfl) (by have := HLh.out; omega) false HC2.out).mono ?_; rintro e w505 ⟨rfl, hb⟩)
          have HS505 : Hid (Hp w [.ob (w.heap.size) 25 (tbCells (.slice a t.held.length cap) (.slice (some ⟨g, off, none⟩) t.wait.length cap2)), .ob b2 25 (tbCells (.slice none 0 0) (.slice none 0 0)), .ob B21 25 (tbCells (.slice a3 h.length c3) (.slice a4 k.length c4)), .sl ((.slice a3 h.length c3)) 29 4 (h.length) (grRow h), .sl ((.slice a4 k.length c4)) 29 4 (k.length) (grRow k), .ob B41 29 (grCells x), .rd [(bf1, 0, grCells x)], .rd [(bf2, 0, grCells x)]] w505) := (HS504.out).calls hb
          refine hK.out _ _ (⟨(fun j v hv => by rw [Nat.zero_add]; exact (HS505.out).at 2 rfl j hv), (fun j v hv => by rw [Nat.zero_add]; exact (HS505.out).at 5 rfl j hv)⟩) (fun hHeld => ?_)
          clear hK K hb
          try simp only [Act.put, List.setIfInBounds_toArray, List.set_cons_zero, List.set_cons_succ]
          refine wpAnyH_take (i := 14) (oi := { dst := some 31, op := Op.pick (Operand.tmp 25) (Operand.const (Value.bool true)) (Operand.tmp 30), type := 4, pos := "locks.go:136", after := #[{ on := 8, ground := Ground.data }, { on := 13, ground := Ground.data }], guard := none }) (v := ?q510v) rfl (by kernel_rfl) (by kernel_rfl) (by kernel_rfl) (fun _ _ _ h => h) (Or.inl ⟨by rfl, ?q510h⟩) hHeld ?q510r
          case q510h => (intro wq hSw; clear hSw; go_simp; try with_reducible rfl)
          try simp only [Act.put, List.setIfInBounds_toArray, List.set_cons_zero, List.set_cons_succ]
          refine wpAnyH_done (by kernel_rfl) ?_ _
          clear hHeld
          have HS506 : Hid (Hp w [.ob (w.heap.size) 25 (tbCells (.slice a t.held.length cap) (.slice (some ⟨g, off, none⟩) t.wait.length cap2)), .ob b2 25 (tbCells (.slice none 0 0) (.slice none 0 0)), .ob B21 25 (tbCells (.slice a3 h.length c3) (.slice a4 k.length c4)), .sl ((.slice a3 h.length c3)) 29 4 (h.length) (grRow h), .sl ((.slice a4 k.length c4)) 29 4 (k.length) (grRow k), .ob B41 29 (grCells x)] w505) := HS505.out.pull [0, 1, 2, 3, 4, 5] rfl (pull_nd HS505.out.nd [0, 1, 2, 3, 4, 5] rfl (by decide))
          clear HS505
          have q0 : w505.cell? ⟨B21, 0, none⟩ = some (.slice a3 h.length c3) := (HS506.out).at 2 rfl 0 rfl
          go_wp2_with (first | ((with_reducible refine wpList_load_ob 29 (.tmp 5) B41 (grCells x) 29 HUG.out ?_ ?_ ?_ ?_ ?_); (exact rfl); (exact (HS506.out).get 5 rfl); (exact rfl); (exact info_gr); simp only [Act.put, List.setIfInBounds_toArray, List.set_cons_zero, List.set_cons_succ]))
          refine (hold_any x h _ w.heap.size _ HHk.out.up ((HS506.out).own 3 rfl) (HS506.out).old.size (by have := HLh.out; omega)).mono ?_
          rintro e w506 ⟨u7, rfl, ho7, hg7, hb7⟩
          have HS507 : Hid (Hp w [.ob (w.heap.size) 25 (tbCells (.slice a t.held.length cap) (.slice (some ⟨g, off, none⟩) t.wait.length cap2)), .ob b2 25 (tbCells (.slice none 0 0) (.slice none 0 0)), .ob B21 25 (tbCells (.slice a3 h.length c3) (.slice a4 k.length c4)), .sl u7 29 4 ((holdR h x).length) (grRow (holdR h x)), .sl ((.slice a4 k.length c4)) 29 4 (k.length) (grRow k), .ob B41 29 (grCells x)] w506) := (HS506.out).grown2 3 rfl ho7 hg7 hb7
          clear ho7 hg7 hb7 q0
          clear HS506
          obtain ⟨a7, c7, rfl⟩ := own_slice (HS507.out.own 3 rfl)
          have q5 : w506.cell? ⟨B21, 0, none⟩ = some (.slice a3 h.length c3) := (HS507.out).at 2 rfl 0 rfl
          have f5 : w506.frozen? ⟨B21, 0, none⟩ = false := (HS507.out).frozen 2 rfl 0
          go_wp2_with fail
          clear q5 f5
          have HS508 : Hid (Hp w [.ob (w.heap.size) 25 (tbCells (.slice a t.held.length cap) (.slice (some ⟨g, off, none⟩) t.wait.length cap2)), .ob b2 25 (tbCells (.slice none 0 0) (.slice none 0 0)), .ob B21 25 (tbCells (.slice a7 (holdR h x).length c7) (.slice a4 k.length c4)), .sl ((.slice a7 (holdR h x).length c7)) 29 4 ((holdR h x).length) (grRow (holdR h x)), .sl ((.slice a4 k.length c4)) 29 4 (k.length) (grRow k), .ob B41 29 (grCells x)] (w506.setCell ⟨B21, 0, none⟩ (.slice a7 (holdR h x).length c7))) := (HS507.out).set 2 rfl 0 (.slice a7 (holdR h x).length c7)
          clear HS507
          generalize w506.setCell ⟨B21, 0, none⟩ (.slice a7 (holdR h x).length c7) = w507 at *
          go_roundw
          case rel => exact ⟨i + 1, holdR h x, k, a7, c7, a4, c4, by go_num, HLt.out, (fold_take HXi.out HFo.out).trans HV1.out, HV2.out, HV3.out, by have h1 := hold_len h x; have h2 := HLen.out; omega, HS508.out.forget (L := [.ob (w.heap.size) 25 (tbCells (.slice a t.held.length cap) (.slice (some ⟨g, off, none⟩) t.wait.length cap2)), .ob b2 25 (tbCells (.slice none 0 0) (.slice none 0 0)), .ob B21 25 (tbCells (.slice a7 (holdR h x).length c7) (.slice a4 k.length c4)), .sl ((.slice a7 (holdR h x).length c7)) 29 4 ((holdR h x).length) (grRow (holdR h x)), .sl ((.slice a4 k.length c4)) 29 4 (k.length) (grRow k)])⟩
          case measure => simp [intOf]; try (have := HLt.out; omega)
    · obtain rfl : i = t.wait.length := by omega
      have HE : Hid (S = ⟨h, k⟩) := Lib.hid (by have := HFo.out; rw [List.take_length] at this; rw [HSt.out, this])
      clear hlt hi
      go_upto_region 9 with (fail)
      go_wp2_with (first | ((with_reducible refine wpList_load_ob 25 (.tmp 3) B21 (tbCells (.slice a3 h.length c3) (.slice a4 k.length c4)) 25 HUT.out ?_ ?_ ?_ ?_ ?_); (exact rfl); (exact (HY.out).get 2 rfl); (exact rfl); (exact info_tb); simp only [Act.put, List.setIfInBounds_toArray, List.set_cons_zero, List.set_cons_succ]) | ((with_reducible refine wpList_store_ob 25 (.tmp 2) b2 (tbCells (.slice a3 h.length c3) (.slice a4 k.length c4)) (tbCells (.slice none 0 0) (.slice none 0 0)) 25 ?_ ?_ ?_ ?_ ?_ ?_ ?_); (exact rfl); (exact rfl); (exact (HY.out).get 1 rfl); (exact info_tb); (exact rfl); (exact (oneCell_tb _ _ _ _ _ _)); skip))
      have HS801 : Hid (Hp w [.ob (w.heap.size) 25 (tbCells (.slice a t.held.length cap) (.slice a2 t.wait.length cap2)), .ob b2 25 (tbCells (.slice a3 h.length c3) (.slice a4 k.length c4)), .ob B21 25 (tbCells (.slice a3 h.length c3) (.slice a4 k.length c4)), .sl ((.slice a3 h.length c3)) 29 4 (h.length) (grRow h), .sl ((.slice a4 k.length c4)) 29 4 (k.length) (grRow k)] (wr.setRow b2 (tbCells (.slice a3 h.length c3) (.slice a4 k.length c4)).toArray)) := (HY.out).row 1 rfl (tbCells (.slice a3 h.length c3) (.slice a4 k.length c4))
      clear HY
      generalize (wr.setRow b2 (tbCells (.slice a3 h.length c3) (.slice a4 k.length c4)).toArray) = w801 at *
      obtain ⟨Rh, hh1, hh2, hh3⟩ := own_reads (HS801.out.own 3 rfl)
      obtain ⟨Rk, hk1, hk2, hk3⟩ := own_reads (HS801.out.own 4 rfl)
      have HF : Hid (TbNew w ⟨h, k⟩ (.returned (.agg (tbCells (.slice a3 h.length c3) (.slice a4 k.length c4)).toArray)) w801) := ⟨_, _, Rh ++ Rk, rfl, ⟨SlRd.mono hh1 (fun r hr => by simp [hr]), SlRd.mono hk1 (fun r hr => by simp [hr])⟩, hh2.append hk2, fun r hr => (List.mem_append.1 hr).elim (fun h => (hh3 r h).1) (fun h => (hk3 r h).1), (HS801.out).old⟩
      clear hh1 hh2 hh3 hk1 hk2 hk3
      refine bodyPost_ret (results_ob Try.results38 _ _ b2 (tbCells (.slice a3 h.length c3) (.slice a4 k.length c4)) 25 _ rfl ((HS801.out).get 1 rfl) HUT.out rfl info_tb) rfl ?_
      rw [HE.out]
      exact HF.out
end Go.Proofs.Ytooaldglgkjjgaa
