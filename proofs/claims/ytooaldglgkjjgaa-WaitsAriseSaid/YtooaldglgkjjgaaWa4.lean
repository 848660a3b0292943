/- texts of a claim, one after the other: who waits for whom, as values: what the functions of chapter 9 answer, and what follows of it, sorted and without repetitions: what a list of numbers is then; for whom one waits, sorted, faults and devices as values, and what the functions of chapter 4 answer, the walk of the reference's 'has', the walk of the reference's 'with', cycles of those who wait, as values: what Cycle and Would answer, and when there is none, the reference's list of numbers of chapter 9: with; what a call hands back, the reference's For of chapter 9, the program's conflict and what finds who waits (waits), the library's sort and its compaction at this program (the shelf's contracts, laid), for slices of one's own, the reference's Waiters and Ints of chapter 9, the reference's closed of chapter 9, the reference's Edges of chapter 9, the program's awaited (waits), the program's For (waits), the walk of the reference's Copy, the library's Grow of a nil list of numbers, and Concat of two lists of numbers, an element of a slice of its own is written, whole, the reference's Cycle and Would of chapter 9, a queue of ways in memory, and a set of those who have been reached, the ways of a length, in their order: a search in breadth over whole ways finds what Cycle answers, a search in breadth that goes to each one once finds what Cycle answers, the program's Cycle (waits), the program's Waiting and turn (locks), rows of whole elements that are written in place, the library's DeleteFunc over grants -/
import Derived.Test.YtooaldglgkjjgaaWa1
import Derived.Lib.SlicesCompact
import Derived.DeepKeys
import Derived.Test.YtooaldglgkjjgaaWa2
import Derived.Test.YtooaldglgkjjgaaWa3
import Derived.Shelf.Sort.Plain
import Derived.Shelf.Slices.CompactI
import Derived.Shelf.Slices.In.SortNone
import Derived.Lib.OwnBridge
import Derived.Lib.AppendZeros
import Derived.Deep.MidRow
import Derived.Lib.SliceRun
/- who waits for whom, as values: what the functions of chapter 9 answer, and what follows of it -/
namespace Go.Proofs.Ytooaldglgkjjgaa
set_option maxRecDepth 20000

def wtWith : List Int → Int → Bool → List Int
  | [], n, d => if d = true then [] else [n]
  | x :: l, n, d => (if (!d && decide (n ≤ x)) = true then [n] else []) ++ ((if x = n then [] else [x]) ++ wtWith l n (d || decide (n ≤ x)))
def wtR (l : List Int) (n : Int) : List Int := wtWith l n false
def Asc (l : List Int) : Prop := l.Pairwise (· < ·)
theorem wtWith_true (n : Int) : ∀ l : List Int, wtWith l n true = l.filter (fun x => !decide (x = n))
  | [] => rfl
  | x :: l => by
    show (if (!true && decide (n ≤ x)) = true then [n] else []) ++ ((if x = n then [] else [x]) ++ wtWith l n (true || decide (n ≤ x))) = _
    rw [Bool.true_or, wtWith_true n l, Bool.not_true, Bool.false_and, if_neg (by decide), List.nil_append, List.filter_cons]
    by_cases h : x = n
    · rw [if_pos h, if_neg (by simp [h])]; rfl
    · rw [if_neg h, if_pos (by simp [h])]; rfl
theorem wtWith_le {n x : Int} {l : List Int} (h : n ≤ x) : wtWith (x :: l) n false = n :: (x :: l).filter (fun y => !decide (y = n)) := by
  show (if (!false && decide (n ≤ x)) = true then [n] else []) ++ ((if x = n then [] else [x]) ++ wtWith l n (false || decide (n ≤ x))) = _
  rw [decide_eq_true h, if_pos (by decide), Bool.or_true, wtWith_true, List.filter_cons]
  by_cases hx : x = n
  · rw [if_pos hx, if_neg (by simp [hx])]; rfl
  · rw [if_neg hx, if_pos (by simp [hx])]; rfl
theorem wtWith_gt {n x : Int} {l : List Int} (h : x < n) : wtWith (x :: l) n false = x :: wtWith l n false := by
  show (if (!false && decide (n ≤ x)) = true then [n] else []) ++ ((if x = n then [] else [x]) ++ wtWith l n (false || decide (n ≤ x))) = _
  rw [decide_eq_false (by omega), if_neg (by decide), if_neg (by omega)]; rfl
theorem mem_with {x n : Int} : ∀ {l : List Int}, x ∈ wtR l n ↔ x = n ∨ x ∈ l
  | [] => by show x ∈ [n] ↔ _; simp
  | y :: l => by
    show x ∈ wtWith (y :: l) n false ↔ _
    rcases Int.lt_or_le y n with h | h
    · rw [wtWith_gt h, List.mem_cons, List.mem_cons, show x ∈ wtWith l n false ↔ x = n ∨ x ∈ l from mem_with]
      constructor
      · rintro (h | h | h)
        · exact .inr (.inl h)
        · exact .inl h
        · exact .inr (.inr h)
      · rintro (h | h | h)
        · exact .inr (.inl h)
        · exact .inl h
        · exact .inr (.inr h)
    · rw [wtWith_le h, List.mem_cons, List.mem_filter]
      by_cases hx : x = n
      · simp [hx]
      · simp [hx]
theorem asc_with {n : Int} : ∀ {l : List Int}, Asc l → Asc (wtR l n)
  | [], _ => by show Asc [n]; exact List.pairwise_singleton _ _
  | y :: l, h => by
    have h' := List.pairwise_cons.1 h
    show Asc (wtWith (y :: l) n false)
    rcases Int.lt_or_le y n with hy | hy
    · rw [wtWith_gt hy]
      refine List.pairwise_cons.2 ⟨fun z hz => ?_, asc_with h'.2⟩
      rcases mem_with.1 hz with rfl | hz
      · exact hy
      · exact h'.1 z hz
    · rw [wtWith_le hy]
      refine List.pairwise_cons.2 ⟨fun z hz => ?_, h.filter _⟩
      obtain ⟨h1, h2⟩ := List.mem_filter.1 hz
      have h3 : z ≠ n := by simpa using h2
      rcases List.mem_cons.1 h1 with rfl | h1
      · omega
      · have := h'.1 z h1; omega
theorem asc_ext : ∀ {a b : List Int}, Asc a → Asc b → (∀ x, x ∈ a ↔ x ∈ b) → a = b
  | [], [], _, _, _ => rfl
  | [], y :: b, _, _, h => by have := (h y).2 (List.mem_cons_self ..); cases this
  | x :: a, [], _, _, h => by have := (h x).1 (List.mem_cons_self ..); cases this
  | x :: a, y :: b, ha, hb, h => by
    have ha' := List.pairwise_cons.1 ha
    have hb' := List.pairwise_cons.1 hb
    have e : x = y := by
      rcases List.mem_cons.1 ((h x).1 (List.mem_cons_self ..)) with e | e
      · exact e
      · rcases List.mem_cons.1 ((h y).2 (List.mem_cons_self ..)) with e' | e'
        · exact e'.symm
        · have := ha'.1 y e'; have := hb'.1 x e; omega
    subst e
    congr 1
    refine asc_ext ha'.2 hb'.2 fun z => ?_
    constructor
    · intro hz
      rcases List.mem_cons.1 ((h z).1 (List.mem_cons_of_mem _ hz)) with e | e
      · have := ha'.1 z hz; omega
      · exact e
    · intro hz
      rcases List.mem_cons.1 ((h z).2 (List.mem_cons_of_mem _ hz)) with e | e
      · have := hb'.1 z hz; omega
      · exact e

def forStep (g : Gr) (o : List Int) (x : Gr) : List Int := if confB x g = true then wtR o x.tx else o
theorem mem_forFold (g : Gr) {b : Int} : ∀ (l : List Gr) (o : List Int), b ∈ l.foldl (forStep g) o ↔ b ∈ o ∨ ∃ x ∈ l, Conf x g ∧ x.tx = b
  | [], o => by simp
  | x :: l, o => by
    rw [List.foldl_cons, mem_forFold g l]
    unfold forStep
    by_cases h : Conf x g
    · rw [if_pos (confB_iff.2 h), mem_with]
      constructor
      · rintro ((e | e) | ⟨y, hy, e⟩)
        · exact .inr ⟨x, List.mem_cons_self .., h, e.symm⟩
        · exact .inl e
        · exact .inr ⟨y, List.mem_cons_of_mem _ hy, e⟩
      · rintro (e | ⟨y, hy, h1, e⟩)
        · exact .inl (.inr e)
        · rcases List.mem_cons.1 hy with rfl | hy
          · exact .inl (.inl e.symm)
          · exact .inr ⟨y, hy, h1, e⟩
    · rw [if_neg (by rw [confB_iff]; exact h)]
      constructor
      · rintro (e | ⟨y, hy, e⟩)
        · exact .inl e
        · exact .inr ⟨y, List.mem_cons_of_mem _ hy, e⟩
      · rintro (e | ⟨y, hy, h1, e⟩)
        · exact .inl e
        · rcases List.mem_cons.1 hy with rfl | hy
          · exact absurd h1 h
          · exact .inr ⟨y, hy, h1, e⟩
theorem asc_forFold (g : Gr) : ∀ (l : List Gr) {o : List Int}, Asc o → Asc (l.foldl (forStep g) o)
  | [], _, h => h
  | x :: l, o, h => by
    rw [List.foldl_cons]
    refine asc_forFold g l ?_
    unfold forStep
    split
    · exact asc_with h
    · exact h
noncomputable def forR (t : Tb) (tx : Int) : List Int :=
  if (waitR t tx).2 = true then (t.wait.takeWhile (fun x => !decide (x.tx = tx))).foldl (forStep (waitR t tx).1) (t.held.foldl (forStep (waitR t tx).1) []) else []
def waitersL (l : List Gr) : List Int := l.foldl (fun o x => wtR o x.tx) []
noncomputable def waitersR (t : Tb) : List Int := if tbOkB t = true then waitersL t.wait else []
theorem asc_nil : Asc [] := List.Pairwise.nil
theorem asc_for (t : Tb) (tx : Int) : Asc (forR t tx) := by
  unfold forR
  split
  · exact asc_forFold _ _ (asc_forFold _ _ asc_nil)
  · exact asc_nil
theorem mem_waitersFold {b : Int} : ∀ (l : List Gr) (o : List Int), b ∈ l.foldl (fun o x => wtR o x.tx) o ↔ b ∈ o ∨ ∃ x ∈ l, x.tx = b
  | [], o => by simp
  | x :: l, o => by
    rw [List.foldl_cons, mem_waitersFold l, mem_with]
    constructor
    · rintro ((e | e) | ⟨y, hy, e⟩)
      · exact .inr ⟨x, List.mem_cons_self .., e.symm⟩
      · exact .inl e
      · exact .inr ⟨y, List.mem_cons_of_mem _ hy, e⟩
    · rintro (e | ⟨y, hy, e⟩)
      · exact .inl (.inr e)
      · rcases List.mem_cons.1 hy with rfl | hy
        · exact .inl (.inl e.symm)
        · exact .inr ⟨y, hy, e⟩
theorem asc_waitersFold : ∀ (l : List Gr) {o : List Int}, Asc o → Asc (l.foldl (fun o x => wtR o x.tx) o)
  | [], _, h => h
  | _ :: l, _, h => by rw [List.foldl_cons]; exact asc_waitersFold l (asc_with h)
theorem mem_waiters {t : Tb} (h : TbOk t) {b : Int} : b ∈ waitersR t ↔ ∃ x ∈ t.wait, x.tx = b := by
  unfold waitersR waitersL
  rw [if_pos (tbOkB_iff.2 h), mem_waitersFold]
  simp
theorem asc_waiters (t : Tb) : Asc (waitersR t) := by
  unfold waitersR waitersL
  split
  · exact asc_waitersFold _ asc_nil
  · exact asc_nil

/-- an edge: one who waits, and one that it waits for -/
def Edge (t : Tb) (a b : Int) : Prop := ∃ p g q, t.wait = p ++ g :: q ∧ g.tx = a ∧ ((∃ x ∈ t.held, Conf x g ∧ x.tx = b) ∨ ∃ x ∈ p, Conf x g ∧ x.tx = b)
theorem split_tx {l : List Gr} (hl : l.Pairwise (fun a b => a.tx ≠ b.tx)) {p q : List Gr} {g : Gr} (h : l = p ++ g :: q) : l.takeWhile (fun x => !decide (x.tx = g.tx)) = p ∧ wfind l g.tx = some g := by
  subst h
  obtain ⟨_, _, h3⟩ := List.pairwise_append.1 hl
  have hp : ∀ x ∈ p, x.tx ≠ g.tx := fun x hx => h3 x hx g (List.mem_cons_self ..)
  constructor
  · rw [List.takeWhile_append_of_pos (fun x hx => by simpa using hp x hx), List.takeWhile_cons, if_neg (by simp), List.append_nil]
  · exact wfind_mem hl (List.mem_append_right _ (List.mem_cons_self ..))
theorem mem_for {t : Tb} (h : TbOk t) {a b : Int} : b ∈ forR t a ↔ Edge t a b := by
  have hone := h.tin.wait.one
  unfold forR
  rw [waitR_of h]
  cases hw : wfind t.wait a with
  | none =>
    simp only [Option.isSome_none, Bool.false_eq_true, if_false]
    constructor
    · intro h; cases h
    · rintro ⟨p, g, q, hs, rfl, _⟩
      have := (split_tx hone hs).2
      rw [hw] at this; cases this
  | some g =>
    simp only [Option.isSome_some, if_true, Option.getD_some]
    obtain ⟨hg, rfl⟩ := wfind_some hw
    obtain ⟨p, q, hs⟩ := List.append_of_mem hg
    rw [(split_tx hone hs).1, mem_forFold, mem_forFold]
    constructor
    · rintro ((h | h) | h)
      · cases h
      · exact ⟨p, g, q, hs, rfl, .inl h⟩
      · exact ⟨p, g, q, hs, rfl, .inr h⟩
    · rintro ⟨p', g', q', hs', hg', h⟩
      have e1 : g' = g := by
        have := (split_tx hone hs').2
        rw [hg', hw] at this
        exact (Option.some.inj this).symm
      subst e1
      have e2 : p' = p := by rw [← (split_tx hone hs').1, (split_tx hone hs).1]
      subst e2
      rcases h with h | h
      · exact .inl (.inr h)
      · exact .inr h
theorem edge_waits {t : Tb} {a b : Int} (h : Edge t a b) : ∃ x ∈ t.wait, x.tx = a := by
  obtain ⟨p, g, q, hs, hg, _⟩ := h
  exact ⟨g, by rw [hs]; exact List.mem_append_right _ (List.mem_cons_self ..), hg⟩
theorem edge_step {H A r : List Gr} {g : Gr} {a b : Int} (h : Edge ⟨(stepS ⟨H, A⟩ g).held, (stepS ⟨H, A⟩ g).wait ++ r⟩ a b) : Edge ⟨H, A ++ g :: r⟩ a b := by
  by_cases ha : Able H A g
  · rw [stepS_pos (s := ⟨H, A⟩) ha] at h
    obtain ⟨p, w, q, hs, hw, h⟩ := h
    simp only at hs h
    rcases List.append_eq_append_iff.1 hs with ⟨s, hp, hr⟩ | ⟨s, hA, hr⟩
    · -- w stands behind A
      refine ⟨A ++ g :: s, w, q, by show A ++ g :: r = _; rw [hr, List.append_assoc]; rfl, hw, ?_⟩
      rcases h with ⟨x, hx, hc⟩ | ⟨x, hx, hc⟩
      · rcases mem_hold hx with rfl | hx
        · exact .inr ⟨_, List.mem_append_right _ (List.mem_cons_self ..), hc⟩
        · exact .inl ⟨x, hx, hc⟩
      · rw [hp] at hx
        rcases List.mem_append.1 hx with hx | hx
        · exact .inr ⟨x, List.mem_append_left _ hx, hc⟩
        · exact .inr ⟨x, List.mem_append_right _ (List.mem_cons_of_mem _ hx), hc⟩
    · cases s with
      | nil =>
        simp only [List.append_nil, List.nil_append] at hA hr
        refine ⟨A ++ [g], w, q, by show A ++ g :: r = _; rw [← hr, List.append_assoc]; rfl, hw, ?_⟩
        rcases h with ⟨x, hx, hc⟩ | ⟨x, hx, hc⟩
        · rcases mem_hold hx with rfl | hx
          · exact .inr ⟨_, List.mem_append_right _ (List.mem_cons_self ..), hc⟩
          · exact .inl ⟨x, hx, hc⟩
        · rw [hA]; exact .inr ⟨x, List.mem_append_left _ hx, hc⟩
      | cons z s =>
        obtain ⟨rfl, rfl⟩ : w = z ∧ q = s ++ r := by
          rw [List.cons_append] at hr
          exact ⟨(List.cons.inj hr).1, (List.cons.inj hr).2⟩
        refine ⟨p, w, s ++ g :: r, by show A ++ g :: r = _; rw [hA, List.append_assoc]; rfl, hw, ?_⟩
        rcases h with ⟨x, hx, hc⟩ | ⟨x, hx, hc⟩
        · rcases mem_hold hx with rfl | hx
          · exact absurd hc.1.symm (ha.2 w (by rw [hA]; exact List.mem_append_right _ (List.mem_cons_self ..)))
          · exact .inl ⟨x, hx, hc⟩
        · exact .inr ⟨x, hx, hc⟩
  · rw [stepS_neg (s := ⟨H, A⟩) ha] at h
    simpa using h
theorem edge_fold {a b : Int} : ∀ (r : List Gr) (s : Tb), Edge (r.foldl stepS s) a b → Edge ⟨s.held, s.wait ++ r⟩ a b
  | [], s, h => by rw [List.append_nil]; exact h
  | g :: r, s, h => by
    rw [List.foldl_cons] at h
    exact edge_step (edge_fold r _ h)
theorem edge_settle {t : Tb} {a b : Int} (h : Edge (settleR t) a b) : Edge t a b := edge_fold t.wait ⟨t.held, []⟩ h
theorem edge_filter {h l : List Gr} (p q : Gr → Bool) {a b : Int} (k : Edge ⟨h.filter p, l.filter q⟩ a b) : Edge ⟨h, l⟩ a b := by
  obtain ⟨u, g, v, hs, hg, k⟩ := k
  obtain ⟨l1, l2, rfl, h1, h2⟩ := List.filter_eq_append_iff.1 hs
  obtain ⟨l3, l4, rfl, h3, h4, h5⟩ := List.filter_eq_cons_iff.1 h2
  refine ⟨l1 ++ l3, g, l4, by show l1 ++ (l3 ++ g :: l4) = _; rw [List.append_assoc], hg, ?_⟩
  rcases k with ⟨x, hx, hc⟩ | ⟨x, hx, hc⟩
  · exact .inl ⟨x, (List.mem_filter.1 hx).1, hc⟩
  · rw [← h1] at hx
    exact .inr ⟨x, List.mem_append_left _ (List.mem_filter.1 hx).1, hc⟩
theorem edge_filter_w {h l : List Gr} (q : Gr → Bool) {a b : Int} (k : Edge ⟨h, l.filter q⟩ a b) : Edge ⟨h, l⟩ a b := by
  have := edge_filter (h := h) (l := l) (fun _ => true) q (a := a) (b := b)
  rw [filter_all] at this; exact this k
theorem edge_filter_h {h l : List Gr} (p : Gr → Bool) {a b : Int} (k : Edge ⟨h.filter p, l⟩ a b) : Edge ⟨h, l⟩ a b := by
  have := edge_filter (h := h) (l := l) p (fun _ => true) (a := a) (b := b)
  rw [filter_all] at this; exact this k
theorem edge_cancel {t : Tb} {tx a b : Int} (h : Edge (cancelR t tx) a b) : Edge t a b := by
  unfold cancelR at h; split at h
  · exact edge_filter_w _ (edge_settle h)
  · exact h
theorem edge_drop {t : Tb} {tx p s a b : Int} (h : Edge (dropR t tx p s) a b) : Edge t a b := by
  unfold dropR at h; split at h
  · exact edge_filter_h _ (edge_settle h)
  · exact h
theorem edge_release {t : Tb} {tx a b : Int} (h : Edge (releaseR t tx) a b) : Edge t a b := by
  unfold releaseR at h; split at h
  · exact edge_filter _ _ (edge_settle h)
  · exact h
theorem edge_insert {h u v : List Gr} {g : Gr} {a b : Int} (k : Edge ⟨h, u ++ g :: v⟩ a b) : Edge ⟨h, u ++ v⟩ a b ∨ a = g.tx ∨ b = g.tx := by
  obtain ⟨p, w, q, hs, hw, k⟩ := k
  simp only at hs k
  rcases List.append_eq_append_iff.1 hs with ⟨s, hp, hr⟩ | ⟨s, hA, hr⟩
  · cases s with
    | nil =>
      obtain ⟨rfl, _⟩ : w = g ∧ _ := ⟨(List.cons.inj hr).1.symm, (List.cons.inj hr).2⟩
      exact .inr (.inl hw.symm)
    | cons z s =>
      obtain ⟨rfl, rfl⟩ : g = z ∧ v = s ++ w :: q := ⟨(List.cons.inj hr).1, (List.cons.inj hr).2⟩
      rcases k with k | ⟨x, hx, hc, hb⟩
      · exact .inl ⟨u ++ s, w, q, by show u ++ (s ++ w :: q) = _; rw [List.append_assoc], hw, .inl k⟩
      · rw [hp] at hx
        rcases List.mem_append.1 hx with hx | hx
        · exact .inl ⟨u ++ s, w, q, by show u ++ (s ++ w :: q) = _; rw [List.append_assoc], hw, .inr ⟨x, List.mem_append_left _ hx, hc, hb⟩⟩
        · rcases List.mem_cons.1 hx with rfl | hx
          · exact .inr (.inr hb.symm)
          · exact .inl ⟨u ++ s, w, q, by show u ++ (s ++ w :: q) = _; rw [List.append_assoc], hw, .inr ⟨x, List.mem_append_right _ hx, hc, hb⟩⟩
  · cases s with
    | nil =>
      obtain ⟨rfl, _⟩ : w = g ∧ _ := ⟨(List.cons.inj hr).1, (List.cons.inj hr).2⟩
      exact .inr (.inl hw.symm)
    | cons z s =>
      obtain ⟨rfl, rfl⟩ : w = z ∧ q = s ++ g :: v := ⟨(List.cons.inj hr).1, (List.cons.inj hr).2⟩
      exact .inl ⟨p, w, s ++ v, by show u ++ v = _; rw [hA, List.append_assoc]; rfl, hw, k⟩
theorem edge_request {t : Tb} {g : Gr} (h : TbOk t) (hr : (requestR t g).2.2 = 0) {a b : Int} (k : Edge (requestR t g).1 a b) : Edge t a b ∨ a = g.tx ∨ b = g.tx := by
  obtain ⟨_, ⟨_, e⟩ | ⟨_, _, e⟩ | ⟨_, _, _, _, e⟩⟩ := request_cases h hr
  · rw [e] at k; exact .inl k
  · rw [e] at k; exact .inl k
  · rw [e] at k
    rcases edge_insert (edge_settle k) with k | k
    · rw [List.take_append_drop] at k; exact .inl k
    · exact .inr k
end Go.Proofs.Ytooaldglgkjjgaa
/- sorted and without repetitions: what a list of numbers is then; for whom one waits, sorted -/
namespace Go.Proofs.Ytooaldglgkjjgaa
set_option maxRecDepth 20000

theorem le_get {l : List Int} (h : l.Pairwise (· ≤ ·)) {i j : Nat} (hij : i ≤ j) (hj : j < l.length) : l[i]'(by omega) ≤ l[j] := by
  rcases Nat.lt_or_eq_of_le hij with hlt | rfl
  · exact List.pairwise_iff_getElem.1 h i j (by omega) hj hlt
  · exact Int.le_refl _
theorem arr_get {l : List Int} {j : Nat} (hj : j < l.length) : l.toArray[j]! = l[j] := by
  rw [getElem!_pos l.toArray j (by simpa using hj), List.getElem_toArray]
theorem compact_asc {l : List Int} (h : l.Pairwise (· ≤ ·)) : Asc (Lib.compact l) := by
  unfold Lib.compact Lib.compactUpTo Asc
  rw [List.pairwise_map]
  have hr : ((List.range l.length).filter (Lib.keeps l.toArray)).Pairwise (· < ·) := List.Pairwise.filter _ List.pairwise_lt_range
  refine hr.imp_of_mem fun {i j} hi hj hij => ?_
  obtain ⟨hi, _⟩ := List.mem_filter.1 hi
  obtain ⟨hj, kj⟩ := List.mem_filter.1 hj
  rw [List.mem_range] at hi hj
  unfold Lib.keeps at kj
  rw [decide_eq_true_eq] at kj
  rw [arr_get hi, arr_get hj]
  rw [arr_get hj, arr_get (show j - 1 < l.length by omega)] at kj
  have h1 := le_get h (show i ≤ j - 1 by omega) (by omega)
  have h2 := le_get h (show j - 1 ≤ j by omega) hj
  rcases kj with e | e
  · omega
  · omega
theorem compact_mem {l : List Int} {x : Int} : x ∈ Lib.compact l ↔ x ∈ l := by
  unfold Lib.compact Lib.compactUpTo
  rw [List.mem_map]
  constructor
  · rintro ⟨j, hj, rfl⟩
    have := List.mem_range.1 (List.mem_filter.1 hj).1
    rw [arr_get this]; exact List.getElem_mem this
  · intro hx
    obtain ⟨j, hj, rfl⟩ := List.getElem_of_mem hx
    have hall : ∀ j (hj : j < l.length), ∃ i, i ∈ (List.range l.length).filter (Lib.keeps l.toArray) ∧ l.toArray[i]! = l[j] := by
      intro j
      induction j with
      | zero =>
        intro hj
        refine ⟨0, List.mem_filter.2 ⟨List.mem_range.2 hj, by unfold Lib.keeps; rw [decide_eq_true_eq]; exact .inl rfl⟩, arr_get hj⟩
      | succ j ih =>
        intro hj
        by_cases e : l[j + 1] = l[j]
        · obtain ⟨i, hi, he⟩ := ih (by omega)
          exact ⟨i, hi, by rw [he, e]⟩
        · refine ⟨j + 1, List.mem_filter.2 ⟨List.mem_range.2 hj, ?_⟩, arr_get hj⟩
          unfold Lib.keeps
          rw [decide_eq_true_eq]
          right
          rw [arr_get hj, arr_get (show j + 1 - 1 < l.length by omega)]
          exact e
    exact hall j hj
def sortI (l : List Int) : List Int := l.mergeSort fun x y => decide (x ≤ y)
theorem sortI_mem {l : List Int} {x : Int} : x ∈ sortI l ↔ x ∈ l := (List.mergeSort_perm l _).mem_iff
theorem sortI_len (l : List Int) : (sortI l).length = l.length := (List.mergeSort_perm l _).length_eq
theorem sortI_asc (l : List Int) : (sortI l).Pairwise (· ≤ ·) := by
  have := List.pairwise_mergeSort (le := fun (x y : Int) => decide (x ≤ y)) (fun a b c h1 h2 => by simp only [decide_eq_true_eq] at *; omega) (fun a b => by simp only [Bool.or_eq_true, decide_eq_true_eq]; omega) l
  refine this.imp fun {a b} h => ?_
  simpa using h
/-- sorted, each once -/
def onceI (l : List Int) : List Int := Lib.compact (sortI l)
theorem onceI_asc (l : List Int) : Asc (onceI l) := compact_asc (sortI_asc l)
theorem onceI_mem {l : List Int} {x : Int} : x ∈ onceI l ↔ x ∈ l := by unfold onceI; rw [compact_mem, sortI_mem]
theorem onceI_eq {l m : List Int} (hm : Asc m) (h : ∀ x, x ∈ m ↔ x ∈ l) : onceI l = m := asc_ext (onceI_asc l) hm fun x => by rw [onceI_mem, h]
/-- the numbers of those that stand in one's way -/
def inWay (g : Gr) (l : List Gr) : List Int := (l.filter fun x => confB x g).map Gr.tx
theorem mem_inWay {g : Gr} {l : List Gr} {b : Int} : b ∈ inWay g l ↔ ∃ x ∈ l, Conf x g ∧ x.tx = b := by
  unfold inWay
  rw [List.mem_map]
  constructor
  · rintro ⟨x, hx, rfl⟩
    obtain ⟨h1, h2⟩ := List.mem_filter.1 hx
    exact ⟨x, h1, confB_iff.1 h2, rfl⟩
  · rintro ⟨x, hx, h, rfl⟩
    exact ⟨x, List.mem_filter.2 ⟨hx, confB_iff.2 h⟩, rfl⟩
theorem inWay_append (g : Gr) (l m : List Gr) : inWay g (l ++ m) = inWay g l ++ inWay g m := by unfold inWay; rw [List.filter_append, List.map_append]
theorem inWay_len (g : Gr) (l : List Gr) : (inWay g l).length ≤ l.length := by unfold inWay; rw [List.length_map]; exact List.length_filter_le ..
theorem inWay_next {g x : Gr} {l : List Gr} {i : Nat} (hx : l[i]? = some x) : inWay g (l.take (i + 1)) = inWay g (l.take i) ++ if confB x g = true then [x.tx] else [] := by
  rw [List.take_add_one, hx, inWay_append]
  congr 1
  show inWay g [x] = _
  unfold inWay
  by_cases h : confB x g = true
  · rw [if_pos h, List.filter_cons, if_pos (by simpa using h)]; rfl
  · rw [if_neg h, List.filter_cons, if_neg (by simpa using h)]; rfl
end Go.Proofs.Ytooaldglgkjjgaa
/- faults and devices as values, and what the functions of chapter 4 answer -/
namespace Go.Proofs.Ytooaldglgkjjgaa
open Go.RowKit
set_option maxRecDepth 20000

structure Flt where
  kind : Int
  at_ : Int
  page : Int
  target : Int
  byte : Int
  mask : Int
structure Dv where
  pages : List ByteArray
  writes : Int
  unread : List Int
  dead : Bool
  faults : List Flt
def fltCells (f : Flt) : List Value := [.int .i64 f.kind, .int .i64 f.at_, .int .i64 f.page, .int .i64 f.target, .int .i64 f.byte, .int .u8 f.mask]
def intRow (l : List Int) : List Value := l.map (.int .i64)
def strRow (l : List ByteArray) : List Value := l.map .string
def fltRow (l : List Flt) : List Value := l.flatMap fltCells
def dvCells (p : Value) (d : Dv) (u f : Value) : List Value := [p, .int .i64 d.writes, u, .bool d.dead, f]
/-- a device's three slices read -/
structure DvRd (p u f : Value) (d : Dv) (R : List Rng) : Prop where
  pages : SlRd p 1 d.pages.length (strRow d.pages) R
  unread : SlRd u 1 d.unread.length (intRow d.unread) R
  faults : SlRd f 6 d.faults.length (fltRow d.faults) R
theorem DvRd.mono {p u f : Value} {d : Dv} {R S : List Rng} (h : DvRd p u f d R) (hs : ∀ r ∈ R, r ∈ S) : DvRd p u f d S := ⟨h.pages.mono hs, h.unread.mono hs, h.faults.mono hs⟩
def dvNil : Dv := ⟨[], 0, [], false, []⟩
def withoutR (l : List Int) (n : Int) : List Int := l.filter fun x => !decide (x = n)
/-- an ascending list with a number -/
def withR (n : Int) : List Int → List Int
  | [] => [n]
  | x :: l => if n ≤ x then n :: withoutR (x :: l) n else x :: withR n l
/-- the numbers of a fault are numbers -/
structure GoodFlt (f : Flt) : Prop where
  kind : (Lit.int .i64 f.kind).wf = true
  at_ : (Lit.int .i64 f.at_).wf = true
  page : (Lit.int .i64 f.page).wf = true
  target : (Lit.int .i64 f.target).wf = true
  byte : (Lit.int .i64 f.byte).wf = true
  mask : (Lit.int .u8 f.mask).wf = true
def nilS : Value := .slice none 0 0
end Go.Proofs.Ytooaldglgkjjgaa
/- the walk of the reference's 'has' -/
namespace Go.Proofs.Ytooaldglgkjjgaa
open Go.RowKit
set_option maxRecDepth 20000

theorem intRow_at (l : List Int) (k : Nat) (h : k < l.length) : (intRow l)[k]? = some (.int .i64 l[k]) := by
  unfold intRow
  rw [List.getElem?_map, List.getElem?_eq_getElem h]
  rfl
end Go.Proofs.Ytooaldglgkjjgaa
/- the walk of the reference's 'with' -/
namespace Go.Proofs.Ytooaldglgkjjgaa
open Go.RowKit
set_option maxRecDepth 20000

theorem withR_low {n : Int} : ∀ {l : List Int}, (∀ x ∈ l, x < n) → withR n l = l ++ [n]
  | [], _ => rfl
  | x :: l, h => by
    have hx := h x (List.mem_cons_self ..)
    unfold withR
    rw [if_neg (by omega), withR_low (fun y hy => h y (List.mem_cons_of_mem _ hy))]
    rfl
/-- how far the list is: dn, whether the number is in it -/
def WithSt (n : Int) (dn : Bool) (l out : List Int) : Prop := if dn = true then out = withR n l ∧ ∃ x ∈ l, n ≤ x else out = l ∧ ∀ x ∈ l, x < n
theorem WithSt.end {n : Int} {l out : List Int} : ∀ {dn : Bool}, WithSt n dn l out → withR n l = if dn = true then out else out ++ [n]
  | true, h => by rw [if_pos rfl]; exact h.1.symm
  | false, h => by
    rw [if_neg (by decide), h.1]
    exact withR_low h.2
theorem WithSt.low {n y : Int} {l out : List Int} (h : WithSt n false l out) (hy : y < n) : WithSt n false (l ++ [y]) (out ++ [y]) :=
  ⟨by rw [h.1], fun x hx => by
    rcases List.mem_append.1 hx with hx | hx
    · exact h.2 x hx
    · rw [List.mem_singleton.1 hx]; exact hy⟩
end Go.Proofs.Ytooaldglgkjjgaa
/- cycles of those who wait, as values: what Cycle and Would answer, and when there is none -/
namespace Go.Proofs.Ytooaldglgkjjgaa
set_option maxRecDepth 20000

def firstR (f : Int → List Int) : List Int → List Int
  | [] => []
  | x :: l => if f x = [] then firstR f l else f x
/-- a way, extended by k more: the first of those whose last one waits for the first one -/
def closedF (f : Int → List Int) : Nat → List Int → List Int
  | 0, way => if way.headD 0 ∈ f (way.getLastD 0) then way else []
  | k + 1, way => firstR (fun x => if x ∈ way then [] else closedF f k (way ++ [x])) (f (way.getLastD 0))
def cycGo (f : Int → List Int) (tx : Int) : Nat → Nat → List Int
  | _, 0 => []
  | n, k + 1 => if closedF f n [tx] = [] then cycGo f tx (n + 1) k else closedF f n [tx]
noncomputable def cycR (t : Tb) (tx : Int) : List Int := cycGo (forR t) tx 0 (waitersR t).length
noncomputable def wouldR (t : Tb) (g : Gr) : List Int × Int := if (requestR t g).2.2 = 0 then (cycR (requestR t g).1 g.tx, 0) else ([], (requestR t g).2.2)

theorem firstR_ne {f : Int → List Int} : ∀ {l : List Int}, firstR f l ≠ [] ↔ ∃ x ∈ l, f x ≠ []
  | [] => by unfold firstR; simp
  | x :: l => by
    unfold firstR
    by_cases h : f x = []
    · rw [if_pos h, firstR_ne]
      constructor
      · rintro ⟨y, hy, h1⟩; exact ⟨y, List.mem_cons_of_mem _ hy, h1⟩
      · rintro ⟨y, hy, h1⟩
        rcases List.mem_cons.1 hy with rfl | hy
        · exact absurd h h1
        · exact ⟨y, hy, h1⟩
    · rw [if_neg h]
      exact ⟨fun _ => ⟨x, List.mem_cons_self .., h⟩, fun _ => h⟩
/-- a way and what closes it -/
def Ext (f : Int → List Int) : List Int → List Int → Prop
  | way, [] => way.headD 0 ∈ f (way.getLastD 0)
  | way, x :: s => x ∈ f (way.getLastD 0) ∧ x ∉ way ∧ Ext f (way ++ [x]) s
theorem closedF_ne {f : Int → List Int} : ∀ {k : Nat} {way : List Int}, way ≠ [] → (closedF f k way ≠ [] ↔ ∃ s, s.length = k ∧ Ext f way s)
  | 0, way, hw => by
    unfold closedF
    constructor
    · intro h
      refine ⟨[], rfl, ?_⟩
      by_cases hc : way.headD 0 ∈ f (way.getLastD 0)
      · exact hc
      · rw [if_neg hc] at h; exact absurd rfl h
    · rintro ⟨s, hs, h⟩
      obtain rfl := List.eq_nil_of_length_eq_zero hs
      rw [if_pos (show way.headD 0 ∈ f (way.getLastD 0) from h)]; exact hw
  | k + 1, way, hw => by
    unfold closedF
    rw [firstR_ne]
    constructor
    · rintro ⟨x, hx, h⟩
      by_cases hm : x ∈ way
      · rw [if_pos hm] at h; exact absurd rfl h
      · rw [if_neg hm] at h
        obtain ⟨s, hs, he⟩ := (closedF_ne (by simp)).1 h
        exact ⟨x :: s, by rw [List.length_cons, hs], hx, hm, he⟩
    · rintro ⟨s, hs, h⟩
      cases s with
      | nil => cases hs
      | cons x s =>
        obtain ⟨hx, hm, he⟩ := h
        refine ⟨x, hx, ?_⟩
        rw [if_neg hm]
        exact (closedF_ne (by simp)).2 ⟨s, by simpa using hs, he⟩
theorem cycGo_ne {f : Int → List Int} {tx : Int} : ∀ {k n : Nat}, cycGo f tx n k ≠ [] ↔ ∃ j, n ≤ j ∧ j < n + k ∧ closedF f j [tx] ≠ []
  | 0, n => by
    unfold cycGo
    constructor
    · intro h; exact absurd rfl h
    · rintro ⟨j, h1, h2, _⟩; omega
  | k + 1, n => by
    unfold cycGo
    by_cases h : closedF f n [tx] = []
    · rw [if_pos h, cycGo_ne]
      constructor
      · rintro ⟨j, h1, h2, h3⟩; exact ⟨j, by omega, by omega, h3⟩
      · rintro ⟨j, h1, h2, h3⟩
        by_cases hj : j = n
        · subst hj; exact absurd h h3
        · exact ⟨j, by omega, by omega, h3⟩
    · rw [if_neg h]
      exact ⟨fun _ => ⟨n, by omega, by omega, h⟩, fun _ => h⟩

def Wk (E : Int → Int → Prop) : Int → List Int → Int → Prop
  | a, [], b => E a b
  | a, x :: s, b => E a x ∧ Wk E x s b
def Acyc (E : Int → Int → Prop) : Prop := ∀ a s, ¬ Wk E a s a
theorem Wk.join {E : Int → Int → Prop} {c b : Int} {q : List Int} (h2 : Wk E c q b) : ∀ {p : List Int} {a : Int}, Wk E a p c → Wk E a (p ++ c :: q) b
  | [], _, h => ⟨h, h2⟩
  | _ :: _, _, h => ⟨h.1, Wk.join h2 h.2⟩
theorem Wk.cut {E : Int → Int → Prop} {c b : Int} {q : List Int} : ∀ {p : List Int} {a : Int}, Wk E a (p ++ c :: q) b → Wk E a p c ∧ Wk E c q b
  | [], _, h => ⟨h.1, h.2⟩
  | _ :: _, _, h => ⟨⟨h.1, (Wk.cut h.2).1⟩, (Wk.cut h.2).2⟩
theorem Wk.mono {E F : Int → Int → Prop} : ∀ {s : List Int} {a b : Int}, (∀ x y, x ∈ a :: s → (y ∈ s ∨ y = b) → E x y → F x y) → Wk E a s b → Wk F a s b
  | [], _, b, h, k => h _ _ (List.mem_cons_self ..) (.inr rfl) k
  | x :: s, a, b, h, k => ⟨h a x (List.mem_cons_self ..) (.inl (List.mem_cons_self ..)) k.1, Wk.mono (fun u v hu hv => h u v (List.mem_cons_of_mem _ hu) (hv.imp (List.mem_cons_of_mem _) id)) k.2⟩
theorem Wk.out {E : Int → Int → Prop} : ∀ {s : List Int} {a b : Int}, Wk E a s b → ∀ x ∈ a :: s, ∃ y, E x y
  | [], a, b, h, x, hx => by
    obtain rfl : x = a := by simpa using hx
    exact ⟨b, h⟩
  | z :: s, a, b, h, x, hx => by
    rcases List.mem_cons.1 hx with rfl | hx
    · exact ⟨z, h.1⟩
    · exact Wk.out h.2 x hx
/-- a walk can be made simple -/
theorem Wk.simple {E : Int → Int → Prop} : ∀ {s : List Int} {a b : Int}, Wk E a s b → ∃ s', Wk E a s' b ∧ (a :: s').Nodup
  | [], a, b, h => ⟨[], h, by simp⟩
  | x :: s, a, b, h => by
    obtain ⟨s1, h1, h2⟩ := Wk.simple h.2
    by_cases ha : a ∈ x :: s1
    · obtain ⟨p, q, hs⟩ := List.append_of_mem ha
      have hq : (a :: q).Nodup := by rw [hs] at h2; exact (List.nodup_append.1 h2).2.1
      refine ⟨q, ?_, hq⟩
      cases p with
      | nil =>
        obtain ⟨rfl, rfl⟩ : x = a ∧ s1 = q := ⟨(List.cons.inj hs).1, (List.cons.inj hs).2⟩
        exact h1
      | cons z p =>
        have e : s1 = p ++ a :: q := (List.cons.inj hs).2
        rw [e] at h1
        exact h1.cut.2
    · exact ⟨x :: s1, ⟨h.1, h1⟩, List.nodup_cons.2 ⟨ha, h2⟩⟩
theorem getLastD_snoc (l : List Int) (x d : Int) : (l ++ [x]).getLastD d = x := by simp [List.getLastD_eq_getLast?]
theorem headD_snoc {l : List Int} (h : l ≠ []) (x d : Int) : (l ++ [x]).headD d = l.headD d := by
  cases l with
  | nil => exact absurd rfl h
  | cons y l => rfl
theorem ext_of {f : Int → List Int} {E : Int → Int → Prop} (hE : ∀ a b, E a b → b ∈ f a) : ∀ {s way : List Int}, way ≠ [] → (way ++ s).Nodup → Wk E (way.getLastD 0) s (way.headD 0) → Ext f way s
  | [], way, _, _, h => hE _ _ h
  | x :: s, way, hw, hn, h => by
    refine ⟨hE _ _ h.1, fun hx => ?_, ext_of hE (by simp) (by rw [List.append_assoc]; exact hn) ?_⟩
    · exact (List.nodup_append.1 hn).2.2 x hx x (List.mem_cons_self ..) rfl
    · rw [getLastD_snoc, headD_snoc hw]; exact h.2
theorem of_ext {f : Int → List Int} {E : Int → Int → Prop} (hE : ∀ a b, b ∈ f a → E a b) : ∀ {s way : List Int}, way ≠ [] → Ext f way s → Wk E (way.getLastD 0) s (way.headD 0)
  | [], way, _, h => hE _ _ h
  | x :: s, way, hw, h => by
    have := of_ext hE (by simp) h.2.2
    rw [getLastD_snoc, headD_snoc hw] at this
    exact ⟨hE _ _ h.1, this⟩
theorem nodup_len : ∀ {l m : List Int}, l.Nodup → (∀ x ∈ l, x ∈ m) → l.length ≤ m.length
  | [], _, _, _ => Nat.zero_le _
  | x :: l, m, h, hs => by
    obtain ⟨hx, hl⟩ := List.nodup_cons.1 h
    have hm := hs x (List.mem_cons_self ..)
    have := nodup_len (m := m.erase x) hl fun y hy => (List.mem_erase_of_ne (fun e => hx (by rw [← e]; exact hy))).2 (hs y (List.mem_cons_of_mem _ hy))
    rw [List.length_erase_of_mem hm] at this
    have : 0 < m.length := List.length_pos_of_mem hm
    rw [List.length_cons]; omega
theorem cycGo_walk {f : Int → List Int} {tx : Int} {W : List Int} (hW : ∀ a, f a ≠ [] → a ∈ W) : cycGo f tx 0 W.length ≠ [] ↔ ∃ s, Wk (fun a b => b ∈ f a) tx s tx := by
  rw [cycGo_ne]
  constructor
  · rintro ⟨j, _, _, h⟩
    obtain ⟨s, _, he⟩ := (closedF_ne (by simp)).1 h
    exact ⟨s, of_ext (E := fun a b => b ∈ f a) (fun _ _ h => h) (by simp) he⟩
  · rintro ⟨s, h⟩
    obtain ⟨s', h1, h2⟩ := h.simple
    have hl : (tx :: s').length ≤ W.length := nodup_len h2 fun x hx => hW x (by
      obtain ⟨y, hy⟩ := h1.out x hx
      intro e; rw [e] at hy; cases hy)
    rw [List.length_cons] at hl
    exact ⟨s'.length, by omega, by omega, (closedF_ne (by simp)).2 ⟨s', rfl, ext_of (E := fun a b => b ∈ f a) (way := [tx]) (fun _ _ h => h) (by simp) h2 h1⟩⟩
theorem cycR_ne {t : Tb} (h : TbOk t) {tx : Int} : cycR t tx ≠ [] ↔ ∃ s, Wk (Edge t) tx s tx := by
  have := cycGo_walk (f := forR t) (tx := tx) (W := waitersR t) fun a ha => by
    obtain ⟨b, hb⟩ := List.exists_mem_of_ne_nil _ ha
    exact (mem_waiters h).2 (edge_waits ((mem_for h).1 hb))
  refine this.trans ?_
  have e : (fun a b => b ∈ forR t a) = Edge t := by funext a b; exact propext (mem_for h)
  rw [e]

theorem acyc_sub {E F : Int → Int → Prop} (h : Acyc E) (hs : ∀ a b, F a b → E a b) : Acyc F := fun a s k => h a s (k.mono fun x y _ _ => hs x y)
theorem acyc_new {E F : Int → Int → Prop} {c : Int} (h : Acyc E) (hs : ∀ a b, F a b → E a b ∨ a = c ∨ b = c) (hc : ¬ ∃ s, Wk F c s c) : Acyc F := fun a s k => by
  by_cases hm : c ∈ a :: s
  · rcases List.mem_cons.1 hm with rfl | hm
    · exact hc ⟨s, k⟩
    · obtain ⟨p, q, rfl⟩ := List.append_of_mem hm
      exact hc ⟨_, (k.cut.1).join k.cut.2⟩
  · refine h a s (k.mono fun x y hx hy hxy => ?_)
    rcases hs x y hxy with h | h | h
    · exact h
    · subst h; exact absurd hx hm
    · subst h
      refine absurd ?_ hm
      rcases hy with hy | hy
      · exact List.mem_cons_of_mem _ hy
      · rw [hy]; exact List.mem_cons_self ..
theorem acyc_out {E F : Int → Int → Prop} {c : Int} (h : Acyc E) (hs : ∀ a b, F a b → E a b ∨ a = c ∨ b = c) (hc : ∀ b, ¬ F c b) : Acyc F :=
  acyc_new h hs fun ⟨s, k⟩ => by
    obtain ⟨b, hb⟩ := k.out c (List.mem_cons_self ..)
    exact hc b hb
theorem acyc_nil : Acyc (Edge tbNil) := fun a s k => by
  obtain ⟨b, hb⟩ := k.out a (List.mem_cons_self ..)
  obtain ⟨x, hx, _⟩ := edge_waits hb
  cases hx
theorem acyc_cyc {t : Tb} (h : TbOk t) (ha : Acyc (Edge t)) (tx : Int) : cycR t tx = [] := by
  rcases Classical.em (cycR t tx = []) with e | e
  · exact e
  · obtain ⟨s, hs⟩ := (cycR_ne h).1 e
    exact absurd hs (ha tx s)
theorem acyc_cancel {t : Tb} (ha : Acyc (Edge t)) (tx : Int) : Acyc (Edge (cancelR t tx)) := acyc_sub ha fun _ _ => edge_cancel
theorem acyc_drop {t : Tb} (ha : Acyc (Edge t)) (tx p s : Int) : Acyc (Edge (dropR t tx p s)) := acyc_sub ha fun _ _ => edge_drop
theorem acyc_release {t : Tb} (ha : Acyc (Edge t)) (tx : Int) : Acyc (Edge (releaseR t tx)) := acyc_sub ha fun _ _ => edge_release
theorem acyc_request {t : Tb} {g : Gr} (h : TbOk t) (hr : (requestR t g).2.2 = 0) (ha : Acyc (Edge t)) (hc : cycR (requestR t g).1 g.tx = []) : Acyc (Edge (requestR t g).1) :=
  acyc_new ha (fun _ _ => edge_request h hr) fun hw => (cycR_ne (request_ok h hr).1).2 hw hc
theorem acyc_giveup {t : Tb} {g : Gr} (h : TbOk t) (hr : (requestR t g).2.2 = 0) (ha : Acyc (Edge t)) : Acyc (Edge (cancelR (requestR t g).1 g.tx)) :=
  acyc_out ha (fun _ _ k => edge_request h hr (edge_cancel k)) fun b k => by
    obtain ⟨x, hx, e⟩ := edge_waits k
    exact cancel_none (request_ok h hr).1 g.tx x hx e

noncomputable def nextW (t : Tb) (a : Int) : Int := (forR t a).getLastD 0
noncomputable def atW (t : Tb) (a : Int) : Nat → Int
  | 0 => a
  | n + 1 => nextW t (atW t a n)
theorem next_edge {t : Tb} (h : TbOk t) {a : Int} (hn : forR t a ≠ []) : Edge t a (nextW t a) := by
  refine (mem_for h).1 ?_
  unfold nextW
  rw [List.getLastD_eq_getLast?, List.getLast?_eq_some_getLast hn]
  exact List.getLast_mem hn
theorem at_walk {t : Tb} (h : TbOk t) (a : Int) (i : Nat) : ∀ k, (∀ q, i ≤ q → q ≤ i + k → forR t (atW t a q) ≠ []) → ∃ s, Wk (Edge t) (atW t a i) s (atW t a (i + k + 1))
  | 0, hq => ⟨[], next_edge h (hq i (Nat.le_refl _) (by omega))⟩
  | k + 1, hq => by
    obtain ⟨s, hs⟩ := at_walk h a i k fun q h1 h2 => hq q h1 (by omega)
    exact ⟨s ++ [atW t a (i + k + 1)], Wk.join (q := []) (show Wk (Edge t) (atW t a (i + k + 1)) [] (atW t a (i + (k + 1) + 1)) from next_edge h (hq (i + k + 1) (by omega) (by omega))) hs⟩
theorem at_ends {t : Tb} (h : TbOk t) (ha : Acyc (Edge t)) (hw : ∀ x ∈ t.wait, 1 ≤ x.tx ∧ x.tx ≤ 5) (a : Int) (hn : ∀ q, q < 5 → forR t (atW t a q) ≠ []) : forR t (atW t a 5) = [] := by
  rcases Classical.em (forR t (atW t a 5) = []) with e | e
  · exact e
  · exfalso
    have hall : ∀ q, q ≤ 5 → forR t (atW t a q) ≠ [] := fun q hq => by
      by_cases h5 : q = 5
      · subst h5; exact e
      · exact hn q (by omega)
    have hne : ∀ i j, i < j → j ≤ 5 → atW t a i ≠ atW t a j := fun i j hij hj he => by
      obtain ⟨s, hs⟩ := at_walk h a i (j - i - 1) fun q _ h2 => hall q (by omega)
      rw [show i + (j - i - 1) + 1 = j by omega, ← he] at hs
      exact ha _ _ hs
    have hin : ∀ q, q ≤ 5 → atW t a q ∈ ([1, 2, 3, 4, 5] : List Int) := fun q hq => by
      obtain ⟨x, hx, e1⟩ := edge_waits (next_edge h (hall q hq))
      have := hw x hx
      simp only [List.mem_cons, List.not_mem_nil, or_false]
      omega
    have := nodup_len (l := (List.range 6).map (atW t a)) (m := [1, 2, 3, 4, 5]) (by
      show (((List.range 6).map (atW t a))).Pairwise (· ≠ ·)
      rw [List.pairwise_map]
      have hr : (List.range 6).Pairwise (· < ·) := List.pairwise_lt_range
      refine hr.imp_of_mem fun {i j} _ hj hij => hne i j hij ?_
      have := List.mem_range.1 hj; omega) (fun x hx => by
      obtain ⟨q, hq, rfl⟩ := List.mem_map.1 hx
      exact hin q (by have := List.mem_range.1 hq; omega))
    rw [List.length_map, List.length_range] at this
    exact absurd this (by decide)
end Go.Proofs.Ytooaldglgkjjgaa
/- the reference's list of numbers of chapter 9: with; what a call hands back -/
namespace Go.Proofs.Ytooaldglgkjjgaa
open Go.RowKit
set_option maxRecDepth 20000

def IntRd (v : Value) (l : List Int) (R : List Rng) : Prop := SlRd v 1 l.length (intRow l) R
/-- a list of numbers, handed back -/
def IntsPost (w : World) (l : List Int) (e : Ending) (w' : World) : Prop := ∃ v R, e = .returned v ∧ IntRd v l R ∧ RdIn w' R ∧ (∀ r ∈ R, w.heap.size ≤ r.1) ∧ Below w.heap.size w w'
theorem int_hand {w W : World} {v : Value} {l : List Int} (h : W.ownsRow w.heap.size 3 1 v l.length (intRow l)) (hb : Below w.heap.size w W) : IntsPost w l (.returned v) W := by
  obtain ⟨R, h1, h2, h3⟩ := own_reads h
  exact ⟨v, R, rfl, h1, h2, fun r hr => (h3 r hr).1, hb⟩
theorem IntRd.nil (R : List Rng) : IntRd (.slice none 0 0) [] R := SlRd.nil _ _
/-- a list that reads, in memory that is new -/
def IntNew (w : World) (v : Value) (l : List Int) (R : List Rng) : Prop := IntRd v l R ∧ ∀ r ∈ R, w.heap.size ≤ r.1
theorem IntNew.nil (w : World) : IntNew w (.slice none 0 0) [] [] := ⟨IntRd.nil _, by simp⟩
theorem int_none {w w' : World} (hb : Below w.heap.size w w') : IntsPost w [] (.returned (.slice none 0 0)) w' := ⟨_, [], rfl, IntRd.nil _, RdIn.nil _, by simp, hb⟩
end Go.Proofs.Ytooaldglgkjjgaa
/- the reference's For of chapter 9 -/
namespace Go.Proofs.Ytooaldglgkjjgaa
open Go.RowKit
set_option maxRecDepth 20000
set_option linter.unusedSimpArgs false
set_option linter.unusedVariables false

theorem wtR_len (l : List Int) (n : Int) : (wtR l n).length ≤ l.length + 1 := by
  unfold wtR
  induction l with
  | nil => exact Nat.le_refl _
  | cons x l ih =>
    rcases Int.lt_or_le x n with h | h
    · rw [wtWith_gt h, List.length_cons, List.length_cons]; omega
    · rw [wtWith_le h, List.length_cons]
      have := List.length_filter_le (fun y => !decide (y = n)) (x :: l)
      omega
theorem forFold_len (g : Gr) : ∀ (l : List Gr) (o : List Int), (l.foldl (forStep g) o).length ≤ o.length + l.length
  | [], o => Nat.le_refl _
  | x :: l, o => by
    rw [List.foldl_cons]
    refine Nat.le_trans (forFold_len g l _) ?_
    have : (forStep g o x).length ≤ o.length + 1 := by
      unfold forStep; split
      · exact wtR_len _ _
      · omega
    rw [List.length_cons]; omega
theorem while_end {m : List Gr} {i : Nat} {tx : Int} (h : ∀ x ∈ m.take i, x.tx ≠ tx) (he : i = m.length ∨ ∃ x, m[i]? = some x ∧ x.tx = tx) : m.takeWhile (fun x => !decide (x.tx = tx)) = m.take i := by
  have h1 : ∀ x ∈ m.take i, (fun x : Gr => !decide (x.tx = tx)) x = true := fun x hx => by simpa using h x hx
  have e : m.takeWhile (fun x => !decide (x.tx = tx)) = (m.take i ++ m.drop i).takeWhile (fun x => !decide (x.tx = tx)) := by rw [List.take_append_drop]
  rw [e, List.takeWhile_append_of_pos h1]
  rcases he with rfl | ⟨x, hx, ht⟩
  · rw [List.drop_length, List.takeWhile_nil, List.append_nil]
  · obtain ⟨hi, hxi⟩ := List.getElem?_eq_some_iff.1 hx
    rw [List.drop_eq_getElem_cons hi, hxi, List.takeWhile_cons, if_neg (by simp [ht]), List.append_nil]
theorem for_no {t : Tb} {tx : Int} (h : (waitR t tx).2 = false) : forR t tx = [] := by unfold forR; rw [h]; rfl
end Go.Proofs.Ytooaldglgkjjgaa
/- the program's conflict and what finds who waits (waits) -/
namespace Go.Proofs.Ytooaldglgkjjgaa
open Go.RowKit
set_option maxRecDepth 20000
set_option linter.unusedSimpArgs false
set_option linter.unusedVariables false

set_option maxHeartbeats 4000000 in
theorem wconflict_any (a b : Gr) (w : World) (ha : GoodGr a) (hb : GoodGr b) : Calls Try.prog 61 #[.agg (grCells a).toArray, .agg (grCells b).toArray] w fun e w' => e = .returned (.bool (confB a b)) ∧ Below w.heap.size w w' := by
  have HB : Hid (∀ cs ds, Below w.heap.size w ((w.alloc (.cells cs 29)).alloc (.cells ds 29))) := fun cs ds => ((Below.refl _ _).alloc (Nat.le_refl _) _).alloc (by simp) _
  have hq : ∀ W, Sem.run Try.prog (binOp .eql 27 (.agg #[.int .i64 a.page, .int .i64 a.slot]) (.agg #[.int .i64 b.page, .int .i64 b.slot])) W = .ok (.bool (sameV a.lock b.lock)) W := fun W => run_eql (equal_lk a.lock b.lock ha.lock hb.lock) W
  have hs : sameV a.lock b.lock = (decide (a.page = b.page) && decide (a.slot = b.slot)) := by
    rw [Bool.eq_iff_iff, sameV_iff, Bool.and_eq_true, decide_eq_true_eq, decide_eq_true_eq]
    exact ⟨fun h => ⟨congrArg Lok.page h, congrArg Lok.slot h⟩, fun h => by show Lok.mk _ _ = Lok.mk _ _; rw [h.1, h.2]⟩
  clear ha hb
  unfold grCells
  generalize sameV a.lock b.lock = q at *
  by_cases h1 : a.tx = b.tx
  · obtain ⟨e1, n1⟩ := eq_facts h1
    have HV : Hid (confB a b = false) := Lib.hid (by unfold confB; simp [h1])
    clear h1 hs
    go_enter Try.func61, Try.ntmps61
    go_wp2
    go_ret
    exact ⟨ret_bool (by rw [HV.out]), HB.out _ _⟩
  · obtain ⟨e1, n1⟩ := ne_facts h1
    cases q
    · have HV : Hid (confB a b = false) := Lib.hid (by unfold confB; have := hs.symm; simp only [Bool.and_eq_false_iff, decide_eq_false_iff_not] at this; rcases this with h | h <;> simp [h])
      clear h1 hs
      go_enter Try.func61, Try.ntmps61
      go_wp2
      go_ret
      exact ⟨ret_bool (by rw [HV.out]), HB.out _ _⟩
    · have hs2 := hs.symm
      simp only [Bool.and_eq_true, decide_eq_true_eq] at hs2
      by_cases h2 : a.mode = 2
      · obtain ⟨e2, n2⟩ := eq_facts h2
        have HV : Hid (confB a b = true) := Lib.hid (by unfold confB; simp [h1, hs2.1, hs2.2, h2])
        clear h1 hs hs2 h2
        go_enter Try.func61, Try.ntmps61
        go_wp2
        go_ret
        exact ⟨ret_bool (by rw [HV.out]), HB.out _ _⟩
      · obtain ⟨e2, n2⟩ := ne_facts h2
        have HV : Hid (confB a b = (b.mode == 2)) := Lib.hid (by unfold confB; simp [h1, hs2.1, hs2.2, h2, beq_dec'])
        clear h1 hs hs2 h2
        go_enter Try.func61, Try.ntmps61
        go_wp2
        go_ret
        exact ⟨ret_bool (by rw [HV.out]), HB.out _ _⟩
theorem eg_aw : EntersF 60 := enters_of Try.func60 (by kernel_rfl) rfl
set_option maxHeartbeats 4000000 in
theorem aw_at (tx : Int) (b : Nat) (l : List Gr) : GrAt 60 #[.pointer (some ⟨b, 0, none⟩)] (fun x => decide (x.tx = tx)) l [(b, 0, [.int .i64 tx])] := by
  intro W x hx hR
  have hb := hR _ (List.mem_singleton.2 rfl)
  have c0 : W.cell? ⟨b, 0, none⟩ = some (.int .i64 tx) := hb.2 0 _ rfl
  have HV : Hid ((x.tx == tx) = decide (x.tx = tx)) := beq_dec' _ _
  have HLtb : Hid (b < W.heap.size) := (by have := hb.1; exact this)
  have h1 := (Hp.start W).put 29 (grCells x)
  have HS0 : Hid (Hp W [.ob W.heap.size 29 (grCells x)] (W.alloc (.cells #[.int .i64 x.tx, .int .i64 x.page, .int .i64 x.slot, .int .i64 x.mode] 29))) := h1
  clear h1
  clear hR hb
  show Calls Try.prog 60 #[.agg #[.int .i64 x.tx, .int .i64 x.page, .int .i64 x.slot, .int .i64 x.mode], .pointer (some ⟨b, 0, none⟩)] W _
  go_enter Try.func60, Try.ntmps60
  go_upto_region 1 with (fail)
  generalize (W.alloc (.cells #[.int .i64 x.tx, .int .i64 x.page, .int .i64 x.slot, .int .i64 x.mode] 29)) = w1 at *
  have x0 : w1.cell? ⟨W.heap.size, 0, none⟩ = some (.int .i64 x.tx) := HS0.out.at 0 rfl 0 rfl
  have x1 : w1.cell? ⟨W.heap.size, 1, none⟩ = some (.int .i64 x.page) := HS0.out.at 0 rfl 1 rfl
  have x2 : w1.cell? ⟨W.heap.size, 2, none⟩ = some (.int .i64 x.slot) := HS0.out.at 0 rfl 2 rfl
  have x3 : w1.cell? ⟨W.heap.size, 3, none⟩ = some (.int .i64 x.mode) := HS0.out.at 0 rfl 3 rfl
  have dc0 := (HS0.out.old.cell (p := ⟨b, 0, none⟩) HLtb.out).trans c0
  have HB := Lib.hid HS0.out.old
  clear HS0 c0
  go_wp2
  go_ret
  exact ⟨ret_bool HV.out, HB.out⟩
/-- where one waits, and for whom then -/
theorem await_idx {t : Tb} {tx : Int} (h : tbOkB t = true) : (idxR (fun x : Gr => decide (x.tx = tx)) t.wait = -1 ∧ forR t tx = []) ∨ ∃ (k : Nat) (x : Gr), k < t.wait.length ∧ t.wait[k]? = some x ∧ idxR (fun x : Gr => decide (x.tx = tx)) t.wait = (k : Int) ∧ forR t tx = onceI (inWay x (t.held ++ t.wait.take k)) := by
  by_cases hi : idxR (fun x : Gr => decide (x.tx = tx)) t.wait = -1
  · refine .inl ⟨hi, for_no ?_⟩
    unfold waitR
    rw [if_pos h, wfind_none_of (fun x hx => by
      have := List.all_eq_true.1 (idxR_neg hi) x hx
      simpa using this)]
    rfl
  · obtain ⟨k, hk, e, ha, hx⟩ := idxR_pos hi
    have hx' : t.wait[k].tx = tx := by simpa using hx
    have hall : ∀ z ∈ t.wait.take k, z.tx ≠ tx := fun z hz => by
      have := List.all_eq_true.1 ha z hz
      simpa using this
    have hw : wfind t.wait tx = some t.wait[k] := wfind_first (fun q hq z hz => by
      have hm : z ∈ t.wait.take k := by
        obtain ⟨h1, rfl⟩ := List.getElem?_eq_some_iff.1 hz
        exact List.mem_take_iff_getElem.2 ⟨q, by omega, rfl⟩
      exact hall z hm) (List.getElem?_eq_getElem hk) hx'
    refine .inr ⟨k, t.wait[k], hk, List.getElem?_eq_getElem hk, e, ?_⟩
    refine (onceI_eq (asc_for t tx) fun b => ?_).symm
    have hwr : waitR t tx = (t.wait[k], true) := by unfold waitR; rw [if_pos h, hw]; rfl
    unfold forR
    rw [hwr, if_pos (by rfl), while_end hall (.inr ⟨_, List.getElem?_eq_getElem hk, hx'⟩), mem_forFold, mem_forFold, inWay_append, List.mem_append, mem_inWay, mem_inWay]
    simp
end Go.Proofs.Ytooaldglgkjjgaa
/- the library's sort and its compaction at this program (the shelf's contracts, laid), for slices of one's own -/
namespace Go.Proofs
open Go.Shelf Go.RowKit Go.Lib Go.Sort
def Try.lays189_ren : Go.Shelf.Ren := ⟨fun | 189 => 30 | 125 => 58 | 257 => 57 | 128 => 88 | 129 => 89 | 294 => 79 | 295 => 80 | 296 => 81 | 297 => 82 | 298 => 83 | 299 => 84 | 216 => 85 | 300 => 86 | 301 => 87 | 328 => 95 | 329 => 96 | 330 => 97 | 331 => 98 | 332 => 99 | 215 => 100 | 343 => 102 | n => n, fun | 28 => 38 | 3 => 3 | 46 => 81 | 0 => 0 | 51 => 105 | 53 => 107 | 4 => 4 | 183 => 98 | 182 => 97 | 131 => 89 | 5 => 5 | 9 => 9 | 218 => 111 | 222 => 115 | 228 => 119 | 229 => 120 | n => n, fun | n => n⟩
theorem Try.lays189 : Go.Proofs.Lays.n189 Try.prog Try.lays189_ren := {
  mixed := by kernel_rfl
  f125 := Try.func58.trans (congrArg some (by kernel_rfl))
  f128 := Try.func88.trans (congrArg some (by kernel_rfl))
  f129 := Try.func89.trans (congrArg some (by kernel_rfl))
  f189 := Try.func30.trans (congrArg some (by kernel_rfl))
  f215 := Try.func100.trans (congrArg some (by kernel_rfl))
  f216 := Try.func85.trans (congrArg some (by kernel_rfl))
  f257 := Try.func57.trans (congrArg some (by kernel_rfl))
  f294 := Try.func79.trans (congrArg some (by kernel_rfl))
  f295 := Try.func80.trans (congrArg some (by kernel_rfl))
  f296 := Try.func81.trans (congrArg some (by kernel_rfl))
  f297 := Try.func82.trans (congrArg some (by kernel_rfl))
  f298 := Try.func83.trans (congrArg some (by kernel_rfl))
  f299 := Try.func84.trans (congrArg some (by kernel_rfl))
  f300 := Try.func86.trans (congrArg some (by kernel_rfl))
  f301 := Try.func87.trans (congrArg some (by kernel_rfl))
  f328 := Try.func95.trans (congrArg some (by kernel_rfl))
  f329 := Try.func96.trans (congrArg some (by kernel_rfl))
  f330 := Try.func97.trans (congrArg some (by kernel_rfl))
  f331 := Try.func98.trans (congrArg some (by kernel_rfl))
  f332 := Try.func99.trans (congrArg some (by kernel_rfl))
  f343 := Try.func102.trans (congrArg some (by kernel_rfl))
  t0 := Try.underlying0
  a0 := Try.isAgg0
  z0 := Try.sizeOf0
  v0 := Try.zeroValue0
  t3 := Try.underlying3
  a3 := Try.isAgg3
  z3 := Try.sizeOf3
  v3 := Try.zeroValue3
  t4 := Try.underlying4
  a4 := Try.isAgg4
  z4 := Try.sizeOf4
  v4 := Try.zeroValue4
  t5 := Try.underlying5
  a5 := Try.isAgg5
  z5 := Try.sizeOf5
  v5 := Try.zeroValue5
  t9 := Try.underlying9
  a9 := Try.isAgg9
  z9 := Try.sizeOf9
  v9 := Try.zeroValue9
  t28 := Try.underlying38
  a28 := Try.isAgg38
  z28 := Try.sizeOf38
  v28 := Try.zeroValue38
  t46 := Try.underlying81
  a46 := Try.isAgg81
  z46 := Try.sizeOf81
  v46 := Try.zeroValue81
  t51 := Try.underlying105
  a51 := Try.isAgg105
  z51 := Try.sizeOf105
  v51 := Try.zeroValue105
  t53 := Try.underlying107
  a53 := Try.isAgg107
  z53 := Try.sizeOf107
  v53 := Try.zeroValue107
  t131 := Try.underlying89
  a131 := Try.isAgg89
  z131 := Try.sizeOf89
  v131 := Try.zeroValue89
  t182 := Try.underlying97
  a182 := Try.isAgg97
  z182 := Try.sizeOf97
  v182 := Try.zeroValue97
  t183 := Try.underlying98
  a183 := Try.isAgg98
  z183 := Try.sizeOf98
  v183 := Try.zeroValue98
  t218 := Try.underlying111
  a218 := Try.isAgg111
  z218 := Try.sizeOf111
  v218 := Try.zeroValue111
  t222 := Try.underlying115
  a222 := Try.isAgg115
  z222 := Try.sizeOf115
  v222 := Try.zeroValue115
  t228 := Try.underlying119
  a228 := Try.isAgg119
  z228 := Try.sizeOf119
  v228 := Try.zeroValue119
  t229 := Try.underlying120
  a229 := Try.isAgg120
  z229 := Try.sizeOf120
  v229 := Try.zeroValue120 }
theorem Try.slices_Sort_int (blk off cap : Nat) (zs : List Int) (w : World) (hH : Holds (Value.int .i64) w blk off zs.toArray) (hblk : blk < w.heap.size) (hsz : zs.length < 4611686018427387904) :
    Calls Try.prog 30 #[.slice (some ⟨blk, off, none⟩) zs.length cap] w fun e w' =>
      e = .returned (.tuple #[]) ∧ ∃ n os, w' = grow (putRow (Value.int .i64) (Sort.ahead w n) blk off (zs.mergeSort fun x y => decide (x ≤ y)).toArray) os := Any.slices_Sort_int Try.lays189 blk off cap zs w hH hblk hsz
def Try.laysNm220_ren : Go.Shelf.Ren := ⟨fun | 20 => 62 | n => n, fun | 22 => 38 | 3 => 3 | 4 => 4 | 0 => 0 | n => n, fun | n => n⟩
theorem Try.laysNm220 : Go.Proofs.Lays2.n20 Try.prog Try.laysNm220_ren := {
  mixed := by kernel_rfl
  f20 := Try.func62.trans (congrArg some (by kernel_rfl))
  t0 := Try.underlying0
  a0 := Try.isAgg0
  z0 := Try.sizeOf0
  v0 := Try.zeroValue0
  t3 := Try.underlying3
  a3 := Try.isAgg3
  z3 := Try.sizeOf3
  v3 := Try.zeroValue3
  t4 := Try.underlying4
  a4 := Try.isAgg4
  z4 := Try.sizeOf4
  v4 := Try.zeroValue4
  t22 := Try.underlying38
  a22 := Try.isAgg38
  z22 := Try.sizeOf38
  v22 := Try.zeroValue38
  i3 := by kernel_rfl }
theorem Try.slices_Compact_int (blk off cap : Nat) (zs : List Int) (w : World) (hH : Holds (Value.int .i64) w blk off zs.toArray) (hsz : zs.length ≤ 9223372036854775807) (hcap : zs.length ≤ cap) :
    Calls Try.prog 62 #[.slice (some ⟨blk, off, none⟩) zs.length cap] w fun e w' => e = .returned (.slice (some ⟨blk, off, none⟩) (Lib.compact zs).length cap) ∧ ∃ q, w' = putRow (Value.int .i64) (Sort.ahead w q) blk off (Lib.compact zs ++ List.replicate (zs.length - (Lib.compact zs).length) 0).toArray := Any.slices_Compact_int Try.laysNm220 blk off cap zs w hH hsz hcap
theorem Try.slices_Compact_int_empty (a : Option Addr) (cap : Nat) (w : World) :
    Calls Try.prog 62 #[.slice a 0 cap] w fun e w' => e = .returned (.slice a 0 cap) ∧ w' = w := Any.slices_Compact_int_empty Try.laysNm220 a cap w
theorem Try.slices_Sort_int_none (p : Option Addr) (cap : Nat) (w : World) :
    Calls Try.prog 30 #[.slice p 0 cap] w fun e w' => e = .returned (.tuple #[]) ∧ w' = w := Any.slices_Sort_int_none Try.lays189 p cap w
end Go.Proofs
namespace Go.Proofs.Ytooaldglgkjjgaa
open Go.RowKit
set_option maxRecDepth 20000

theorem own_kept {B : Nat} {W W' : World} {e : TypeId} {z n : Nat} {v : Value} {xs : List Value} (h : W.ownsRow B e z v n xs) (hk : ∀ b, v.ownBlock = some b → W'.heap[b]? = W.heap[b]?) : W'.ownsRow B e z v n xs := by
  obtain ⟨h1, h2 | ⟨g, cap, cur, rfl, hB, hg, h3⟩⟩ := h
  · exact ⟨h1, .inl h2⟩
  · exact ⟨h1, .inr ⟨g, cap, cur, rfl, hB, (hk g rfl).trans hg, h3⟩⟩
theorem put_other (w : World) (g q : Nat) (d : Array Int) {k : Nat} (hk : k ≠ g) : (Go.Sort.putRow (Value.int .i64) (Sort.ahead w q) g 0 d).heap[k]? = w.heap[k]? := by
  simp [Go.Sort.putRow, Go.Sort.mapBlock, Sort.ahead, Array.getElem?_modify, Ne.symm hk]
theorem put_size (w : World) (g q : Nat) (d : Array Int) : (Go.Sort.putRow (Value.int .i64) (Sort.ahead w q) g 0 d).heap.size = w.heap.size := by
  simp [Go.Sort.putRow, Go.Sort.mapBlock, Sort.ahead]
theorem slice_nil_or (v : Value) : v = .slice none 0 0 ∨ v ≠ .slice none 0 0 := Classical.em _
/-- slices.Sort at a slice of one's own -/
theorem sort_own {w W : World} {L : List Th} (h : Hp w L W) (i : Nat) {v : Value} {l : List Int} (ei : L[i]? = some (.sl v 3 1 l.length (intRow l))) (hl : l.length ≤ 1000000) :
    Calls Try.prog 30 #[v] W fun e W' => e = .returned (.tuple #[]) ∧ Hp w (L.set i (.sl v 3 1 (sortI l).length (intRow (sortI l)))) W' := by
  have ho := h.own i ei
  have hsl : (sortI l).length = l.length := sortI_len l
  rcases slice_nil_or v with rfl | hv
  · have hn : l.length = 0 := by
      rcases ho.2 with ⟨_, h0⟩ | ⟨g, cap, cur, e, _⟩
      · exact h0
      · cases e
    obtain rfl := List.eq_nil_of_length_eq_zero hn
    refine (Try.slices_Sort_int_none none 0 W).mono ?_
    rintro e w' ⟨rfl, rfl⟩
    refine ⟨rfl, ?_⟩
    have e0 : sortI [] = [] := List.eq_nil_of_length_eq_zero (sortI_len [])
    rw [e0]
    have : L.set i (.sl (.slice none 0 0) 3 1 ([] : List Int).length (intRow [])) = L := by
      apply List.ext_getElem?
      intro j
      rw [List.getElem?_set]
      split
      · next hij =>
        subst hij
        rw [ei]
        split
        · rfl
        · next hlt => rw [List.getElem?_eq_none (by omega)] at ei; cases ei
      · rfl
    rw [this]
    exact h
  · obtain ⟨g, cap, rfl, hbg, hgl, hncap, hcm, hlen, hH⟩ := Lib.holds_of_ownsRow (enc := Value.int .i64) (zs := l) ho hv
    refine (Try.slices_Sort_int g 0 cap l W hH hgl (by omega)).mono ?_
    rintro e w' ⟨rfl, n, os, rfl⟩
    refine ⟨rfl, ?_⟩
    have h1 := Lib.ownsRow_putRow (q := n) (k := l.length) (ys := sortI l) ho hsl (Nat.le_refl _)
    rw [List.take_of_length_le (by omega)] at h1
    have h2 : (Go.Sort.grow (Go.Sort.putRow (Value.int .i64) (Sort.ahead W n) g 0 (sortI l).toArray) os).ownsRow w.heap.size 3 1 (.slice (some ⟨g, 0, none⟩) l.length cap) l.length (intRow (sortI l)) :=
      own_kept h1 fun b hb => by
        obtain rfl : g = b := Option.some.inj hb
        exact Go.Sort.heap_grow_old _ _ (by rw [put_size]; exact hgl)
    rw [hsl]
    refine h.grown i ei h2 ⟨rfl, rfl, rfl, ?_, fun k hk hne => ?_⟩ (.inl rfl)
    · show W.heap.size ≤ (Go.Sort.grow (Go.Sort.putRow (Value.int .i64) (Sort.ahead W n) g 0 (sortI l).toArray) os).heap.size
      have : (Go.Sort.grow (Go.Sort.putRow (Value.int .i64) (Sort.ahead W n) g 0 (sortI l).toArray) os).heap.size = W.heap.size + os.size := by
        show (_ ++ os).size = _
        rw [Array.size_append, put_size]
      omega
    · have hkg : k ≠ g := fun e => hne (by rw [e]; rfl)
      exact (Go.Sort.heap_grow_old _ _ (by rw [put_size]; exact hk)).trans (put_other W g n _ hkg)
/-- slices.Compact at a slice of one's own -/
theorem compact_own {w W : World} {L : List Th} (h : Hp w L W) (i : Nat) {v : Value} {l : List Int} (ei : L[i]? = some (.sl v 3 1 l.length (intRow l))) (hl : l.length ≤ 1000000) :
    Calls Try.prog 62 #[v] W fun e W' => ∃ v', e = .returned v' ∧ Hp w (L.set i (.sl v' 3 1 (Lib.compact l).length (intRow (Lib.compact l)))) W' := by
  have ho := h.own i ei
  rcases slice_nil_or v with rfl | hv
  · have hn : l.length = 0 := by
      rcases ho.2 with ⟨_, h0⟩ | ⟨g, cap, cur, e, _⟩
      · exact h0
      · cases e
    obtain rfl := List.eq_nil_of_length_eq_zero hn
    refine (Try.slices_Compact_int_empty none 0 W).mono ?_
    rintro e w' ⟨rfl, rfl⟩
    refine ⟨_, rfl, ?_⟩
    have e0 : Lib.compact ([] : List Int) = [] := rfl
    rw [e0]
    have : L.set i (.sl (.slice none 0 0) 3 1 ([] : List Int).length (intRow [])) = L := by
      apply List.ext_getElem?
      intro j
      rw [List.getElem?_set]
      split
      · next hij =>
        subst hij
        rw [ei]
        split
        · rfl
        · next hlt => rw [List.getElem?_eq_none (by omega)] at ei; cases ei
      · rfl
    rw [this]
    exact h
  · obtain ⟨g, cap, rfl, hbg, hgl, hncap, hcm, hlen, hH⟩ := Lib.holds_of_ownsRow (enc := Value.int .i64) (zs := l) ho hv
    refine (Try.slices_Compact_int g 0 cap l W hH (by omega) hncap).mono ?_
    rintro e w' ⟨rfl, q, rfl⟩
    have hle := Lib.compact_length_le l
    have h1 := Lib.ownsRow_putRow (q := q) (k := (Lib.compact l).length) (ys := Lib.compact l ++ List.replicate (l.length - (Lib.compact l).length) 0) ho (by rw [List.length_append, List.length_replicate]; omega) hle
    rw [List.take_left] at h1
    refine ⟨_, rfl, h.grown i ei h1 ⟨rfl, rfl, rfl, by rw [put_size]; exact Nat.le_refl _, fun k hk hne => put_other W g q _ fun e => hne (by rw [e]; rfl)⟩ (.inl rfl)⟩
end Go.Proofs.Ytooaldglgkjjgaa
/- the reference's Waiters and Ints of chapter 9 -/
namespace Go.Proofs.Ytooaldglgkjjgaa
open Go.RowKit
set_option maxRecDepth 20000
set_option linter.unusedSimpArgs false
set_option linter.unusedVariables false

theorem waitersFold_len : ∀ (l : List Gr) (o : List Int), (l.foldl (fun o x => wtR o x.tx) o).length ≤ o.length + l.length
  | [], _ => Nat.le_refl _
  | x :: l, o => by
    rw [List.foldl_cons]
    refine Nat.le_trans (waitersFold_len l _) ?_
    have := wtR_len o x.tx
    rw [List.length_cons]; omega
set_option maxHeartbeats 8000000 in
theorem rInts_same {v u : Value} {l : List Int} {R R' : List Rng} (w : World) (hv : IntRd v l R) (hR : RdIn w R) (hu : IntRd u l R') (hR' : RdIn w R') (hl : l.length ≤ 1000000) :
    Calls Try.prog 11 #[v, u] w fun e w' => e = .returned (.bool true) ∧ Below w.heap.size w w' := by
  obtain ⟨a, cap, rfl, hnc, hcm, hg0⟩ := SlRd.open hv hR
  obtain ⟨a2, cap2, rfl, hnc2, hcm2, hg2⟩ := SlRd.open hu hR'
  have HL := Lib.hid hl
  have hlI : (l.length : Int) ≤ 1000000 := by omega
  clear hv hu hR hR' hl
  have HS0 := Lib.hid (Below.refl w.heap.size w)
  go_enter Try.func11, Try.ntmps11
  go_wp2_with fail
  go_loopw [5] (fun iv wr => ∃ i : Nat, i ≤ l.length ∧ iv = .int .i64 i ∧ Below w.heap.size w wr) (fun iv _ => l.length - (intOf iv).toNat)
  case atStart => exact ⟨0, by omega, rfl, HS0.out⟩
  case round =>
    clear HS0
    obtain ⟨i, hi, rfl, hs⟩ := hrel
    have HY := Lib.hid hs
    clear hs
    by_cases hlt : i < l.length
    · obtain ⟨g0, off, rfl, hr⟩ := hg0.out (by omega)
      obtain ⟨g1, off1, rfl, hr1⟩ := hg2.out (by omega)
      have hii : (i : Int) < (l.length : Int) := by omega
      have hi0 : (0 : Int) ≤ (i : Int) := by omega
      have HLt := Lib.hid hlt
      have c0 : wr.cell? ⟨g0, off + i, none⟩ = some (.int .i64 l[i]) := hr wr HY.out i _ (intRow_at l i hlt)
      have c1 : wr.cell? ⟨g1, off1 + i, none⟩ = some (.int .i64 l[i]) := hr1 wr HY.out i _ (intRow_at l i hlt)
      clear hr hr1 hg0 hg2
      generalize l[i] = y at *
      have hyy : (y != y) = false := by simp
      clear hi hlt
      go_wp2_with fail
      go_quiet (fail)
      have HY2 : Hid (Below w.heap.size w (wr.drewN nq)) := Lib.hid ⟨HY.out.os, HY.out.tape, HY.out.output, HY.out.size, HY.out.block⟩
      clear HY c0 c1
      generalize wr.drewN nq = w2 at *
      go_wp2_with fail
      go_roundw
      case rel => exact ⟨i + 1, HLt.out, by go_num, HY2.out⟩
      case measure => simp [intOf]; try (have := HLt.out; omega)
    · obtain rfl : i = l.length := by omega
      clear hlt hi
      go_wp2_with fail
      go_ret
      exact ⟨rfl, HY.out⟩
end Go.Proofs.Ytooaldglgkjjgaa
/- the reference's closed of chapter 9 -/
namespace Go.Proofs.Ytooaldglgkjjgaa
open Go.RowKit
set_option maxRecDepth 20000
set_option linter.unusedSimpArgs false
set_option linter.unusedVariables false

theorem intRow_of {l : List Int} {k : Nat} {x : Int} (h : l[k]? = some x) : (intRow l)[k]? = some (.int .i64 x) := by unfold intRow; rw [List.getElem?_map, h]; rfl
theorem IntRd.cells {v : Value} {l : List Int} {R : List Rng} (h : IntRd v l R) : ∃ a c, v = .slice a l.length c ∧ l.length ≤ c ∧ c ≤ maxLen ∧ (0 < l.length → ∃ g off, a = some ⟨g, off, none⟩ ∧ ∀ W, RdIn W R → ∀ i x, l[i]? = some x → W.cell? ⟨g, off + i, none⟩ = some (.int .i64 x)) := by
  obtain ⟨a, c, rfl, _, h1, h2, h3, _⟩ := h
  refine ⟨a, c, rfl, h1, h2, fun h0 => ?_⟩
  obtain ⟨g, off, ha, hm⟩ := h3 h0
  exact ⟨g, off, ha, fun W hR i x hx => (hR _ hm).2 i _ (intRow_of hx)⟩
theorem last_at {l : List Int} (h : l ≠ []) : l[l.length - 1]? = some (l.getLastD 0) := by
  have hp := List.length_pos_iff.2 h
  rw [List.getLastD_eq_getLast?, List.getLast?_eq_getElem?, List.getElem?_eq_getElem (by omega)]; rfl
end Go.Proofs.Ytooaldglgkjjgaa
/- the reference's Edges of chapter 9 -/
namespace Go.Proofs.Ytooaldglgkjjgaa
open Go.RowKit
set_option maxRecDepth 20000
set_option linter.unusedSimpArgs false
set_option linter.unusedVariables false

theorem for_few (t : Tb) (tx : Int) : (forR t tx).length ≤ 1024 := by
  unfold forR
  split
  · next h =>
    have hb : tbOkB t = true := by
      unfold waitR at h
      split at h
      · assumption
      · cases h
    have h1 := forFold_len (waitR t tx).1 (t.wait.takeWhile (fun x => !decide (x.tx = tx))) (t.held.foldl (forStep (waitR t tx).1) [])
    have h2 := forFold_len (waitR t tx).1 t.held []
    have h3 := (List.takeWhile_sublist (fun x : Gr => !decide (x.tx = tx)) (l := t.wait)).length_le
    have h4 := (tbOkB_iff.1 hb).few
    simp only [List.length_nil] at h2
    omega
  · exact Nat.zero_le _
end Go.Proofs.Ytooaldglgkjjgaa
/- the program's awaited (waits) -/
namespace Go.Proofs.Ytooaldglgkjjgaa
open Go.RowKit
set_option maxRecDepth 20000
set_option linter.unusedSimpArgs false
set_option linter.unusedVariables false

theorem elem_gs : ElemIs 23 1 24 := elem_of (z := .slice none 0 0) (by kernel_rfl) rfl (by decide) (by decide) (by decide)
theorem ob_rdin {w W : World} {L : List Th} (h : Hp w L W) (i : Nat) {b : Nat} {t : TypeId} {cs : List Value} (e : L[i]? = some (.ob b t cs)) : RdIn W [(b, 0, cs)] := fun r hr => by
  obtain rfl := List.mem_singleton.1 hr
  have hg := h.get i e
  refine ⟨(Array.getElem?_eq_some_iff.1 hg).1, fun j u hu => ?_⟩
  rw [Nat.zero_add, cell_of_row W b j _ _ _ hg, List.getElem?_toArray]; exact hu
def preL (h m : List Gr) : Nat → List Gr
  | 0 => []
  | 1 => h
  | _ => h ++ m
theorem int_snoc {w W : World} {A : List Th} {v : Value} {l : List Int} {x : Int} (h : Hp w (A ++ [.sl v 3 1 (l.length + 1) (intRow l ++ [.int .i64 x])]) W) : Hp w (A ++ [.sl v 3 1 (l ++ [x]).length (intRow (l ++ [x]))]) W := by
  have e : intRow (l ++ [x]) = intRow l ++ [.int .i64 x] := by unfold intRow; rw [List.map_append]; rfl
  rw [e, List.length_append]; exact h
set_option maxHeartbeats 16000000 in
theorem pawait_any {h v : Value} {t : Tb} {R : List Rng} (tx : Int) (w : World) (ht : TbRd h v t R) (hR : RdIn w R) (hg : GoodTb t) (hok : tbOkB t = true) :
    Calls Try.prog 31 #[.agg (tbCells h v).toArray, .int .i64 tx] w (IntsPost w (forR t tx)) := by
  obtain ⟨a, cap, rfl, hnc, hcm⟩ := ht.1.shape
  obtain ⟨a2, cap2, rfl, hnc2, hcm2⟩ := ht.2.shape
  have HIx : Hid (∀ b W, Below w.heap.size w W → RdIn W [(b, 0, [.int .i64 tx])] → Calls Try.prog 59 #[.slice a2 t.wait.length cap2, .func (.func 60) #[] #[.pointer (some ⟨b, 0, none⟩)]] W fun e w' => e = .returned (.int .i64 (idxR (fun x : Gr => decide (x.tx = tx)) t.wait)) ∧ Below W.heap.size W w') := fun b W hb hr => idxGr_any _ _ _ t.wait _ R W eg_aw ((aw_at tx b t.wait).fn hr) ht.2 (hR.below hb) (by have := hg.few; omega)
  have HWf := Lib.hid (await_idx (tx := tx) hok)
  have HFew : Hid (t.held.length ≤ 100000 ∧ t.wait.length ≤ 100000) := Lib.hid hg.few
  have HGe := Lib.hid hg.held
  have HGw := Lib.hid hg.wait
  have HHd := Lib.hid ht.1
  have HWd := Lib.hid ht.2
  have HR0 := Lib.hid hR
  have h1 := ((Hp.start w).put 25 (tbCells (.slice a t.held.length cap) (.slice a2 t.wait.length cap2))).put 3 [.int .i64 tx]
  simp only [World.size_alloc, List.nil_append, List.cons_append] at h1
  have HS0 : Hid (Hp w [.ob w.heap.size 25 (tbCells (.slice a t.held.length cap) (.slice a2 t.wait.length cap2)), .ob (w.heap.size + 1) 3 [.int .i64 tx]] ((w.alloc (.cells (tbCells (.slice a t.held.length cap) (.slice a2 t.wait.length cap2)).toArray 25)).alloc (.cells #[.int .i64 tx] 3))) := h1
  have hfew := hg.few
  have hw1 : (t.wait.length : Int) ≤ 100000 := by omega
  have HCap : Hid (t.wait.length ≤ cap2) := hnc2
  clear h1 ht hR hg hok hfew hnc hcm hnc2 hcm2
  obtain ⟨fsHUG, huHUG⟩ := under_gr
  have HUG := Lib.hid huHUG
  clear huHUG
  obtain ⟨fsHUT, huHUT⟩ := under_tb
  have HUT := Lib.hid huHUT
  clear huHUT
  have HUS : Hid (Try.prog.underlying 83 = some (.slice 23)) := Try.underlying83
  have HUI : Hid (Try.prog.underlying 38 = some (.slice 3)) := Try.underlying38
  generalize idxR (fun x : Gr => decide (x.tx = tx)) t.wait = ix at *
  generalize forR t tx = res at *
  go_enter Try.func31, Try.ntmps31
  go_upto_region 1 with (fail)
  generalize ((w.alloc (.cells (tbCells (.slice a t.held.length cap) (.slice a2 t.wait.length cap2)).toArray 25)).alloc (.cells #[.int .i64 tx] 3)) = w1 at *
  generalize w.heap.size + 1 = b9 at *
  have b1 : w1.cell? ⟨w.heap.size, 1, none⟩ = some (.slice a2 t.wait.length cap2) := HS0.out.at 0 rfl 1 rfl
  go_wp2_with fail
  refine (HIx.out b9 _ (HS0.out).old (ob_rdin HS0.out 1 rfl)).mono ?_
  rintro e w21 ⟨rfl, hb⟩
  have HS21 : Hid (Hp w [.ob (w.heap.size) 25 (tbCells (.slice a t.held.length cap) (.slice a2 t.wait.length cap2)), .ob b9 3 [.int .i64 tx]] w21) := (HS0.out).calls hb
  clear hb
  clear HS0
  clear b1 HIx
  rcases HWf.out with ⟨hix, hres⟩ | ⟨k, x, hk, hx, hix, hres⟩
  · subst hix
    subst hres
    clear HWf
    go_wp2_with fail
    go_ret
    exact int_none HS21.out.old
  subst hix
  have HK := Lib.hid hk
  have HX := Lib.hid hx
  have HRes := Lib.hid hres
  have HGx : Hid (GoodGr x) := HGw.out x (List.mem_of_getElem? hx)
  have hk0 : (0 : Int) ≤ (k : Int) := by omega
  have hki : (k : Int) < (t.wait.length : Int) := by omega
  have hkl : (k : Int) ≤ (t.wait.length : Int) := by omega
  have hkc : (k : Int) ≤ (cap2 : Int) := by have := HCap.out; omega
  have hlt0 : decide ((k : Int) < 0) = false := decide_eq_false (by omega)
  obtain ⟨g2, off2, rfl, hr2⟩ := HWd.out.base (by omega)
  have HRg2 : Hid (∀ W, Below w.heap.size w W → W.rangeAt g2 (off2 + k * 4) (grCells x)) := fun W hb => elem_rng (hr2 W (HR0.out.below hb)) hx
  obtain ⟨R2, htk, htk2, htk3⟩ := gr_take HWd.out k (by omega)
  have HTk : Hid (GrRd (.slice (some ⟨g2, off2, none⟩) (t.wait.take k).length cap2) (t.wait.take k) R2) := Lib.hid (by
    have : (t.wait.take k).length = k := by rw [List.length_take]; omega
    rw [this]; exact htk)
  have HTk2 := Lib.hid htk2
  have HLs : Hid (∀ j, j < 2 → ∃ (l : List Gr) (la : Option Addr) (lc : Nat), ([.slice a t.held.length cap, .slice (some ⟨g2, off2, none⟩) k cap2] : List Value)[j]? = some (.slice la l.length lc) ∧ (∃ R', GrRd (.slice la l.length lc) l R' ∧ ∀ W, Below w.heap.size w W → RdIn W R') ∧ inWay x (preL t.held (t.wait.take k) (j + 1)) = inWay x (preL t.held (t.wait.take k) j) ++ inWay x l ∧ (∀ y ∈ l, GoodGr y) ∧ l.length ≤ 100000) := by
    have hlk : (t.wait.take k).length = k := by rw [List.length_take]; omega
    intro j hj
    rcases (show j = 0 ∨ j = 1 by omega) with rfl | rfl
    · exact ⟨t.held, a, cap, rfl, ⟨R, HHd.out, fun W hb => HR0.out.below hb⟩, rfl, HGe.out, HFew.out.1⟩
    · exact ⟨t.wait.take k, some ⟨g2, off2, none⟩, cap2, by rw [hlk]; rfl, ⟨R2, HTk.out, fun W hb => HTk2.out W (HR0.out.below hb)⟩, inWay_append x t.held (t.wait.take k), fun y hy => HGw.out y (List.mem_of_mem_take hy), by have := HFew.out; omega⟩
  clear hk hx hres hr2 htk htk2 htk3 HWf HTk HTk2
  go_upto_region 5 with (fail)
  clear hlt0
  refine wp_region_held_drew (S := fun w' => w'.rangeAt w.heap.size 0 (tbCells (.slice a t.held.length cap) (.slice (some ⟨g2, off2, none⟩) t.wait.length cap2))) (by kernel_rfl) ((fun j v hv => by rw [Nat.zero_add]; exact ((HS21.out).drew).at 0 rfl j hv)) (fun hHeld => ?_)
  refine wpAnyH_take (i := 0) (oi := { dst := some 17, op := Op.fieldAddr 25 (Operand.tmp 2) 0, type := 0, pos := "waits.go:22", after := #[], guard := none }) (v := ?q1v) rfl (by kernel_rfl) (by kernel_rfl) (by kernel_rfl) (fun _ _ _ h => h) (Or.inl ⟨by rfl, ?q1h⟩) hHeld ?q1r
  case q1h => (intro wq hSw; clear hSw; go_simp; try with_reducible rfl)
  try simp only [Act.put, List.setIfInBounds_toArray, List.set_cons_zero, List.set_cons_succ]
  refine wpAnyH_take (i := 1) (oi := { dst := some 18, op := Op.load 23 (Operand.tmp 17), type := 23, pos := "waits.go:22", after := #[{ on := 0, ground := Ground.data }], guard := none }) (v := .slice a t.held.length cap) rfl (by kernel_rfl) (by kernel_rfl) (by kernel_rfl) (fun _ _ _ h => h) (Or.inl ⟨by rfl, ?q2h⟩) hHeld ?q2r
  case q2h => (intro wq hSw; have lq := (hSw) 0 (.slice a t.held.length cap) rfl; simp only [Nat.zero_add] at lq; clear hSw; go_simp; try with_reducible rfl)
  try simp only [Act.put, List.setIfInBounds_toArray, List.set_cons_zero, List.set_cons_succ]
  refine wpAnyH_take (i := 2) (oi := { dst := some 19, op := Op.fieldAddr 25 (Operand.tmp 2) 1, type := 0, pos := "waits.go:22", after := #[], guard := none }) (v := ?q3v) rfl (by kernel_rfl) (by kernel_rfl) (by kernel_rfl) (fun _ _ _ h => h) (Or.inl ⟨by rfl, ?q3h⟩) hHeld ?q3r
  case q3h => (intro wq hSw; clear hSw; go_simp; try with_reducible rfl)
  try simp only [Act.put, List.setIfInBounds_toArray, List.set_cons_zero, List.set_cons_succ]
  refine wpAnyH_take (i := 3) (oi := { dst := some 20, op := Op.load 23 (Operand.tmp 19), type := 23, pos := "waits.go:22", after := #[{ on := 2, ground := Ground.data }], guard := none }) (v := .slice (some ⟨g2, off2, none⟩) t.wait.length cap2) rfl (by kernel_rfl) (by kernel_rfl) (by kernel_rfl) (fun _ _ _ h => h) (Or.inl ⟨by rfl, ?q4h⟩) hHeld ?q4r
  case q4h => (intro wq hSw; have lq := (hSw) 1 (.slice (some ⟨g2, off2, none⟩) t.wait.length cap2) rfl; simp only [Nat.zero_add] at lq; clear hSw; go_simp; try with_reducible rfl)
  try simp only [Act.put, List.setIfInBounds_toArray, List.set_cons_zero, List.set_cons_succ]
  refine wpAnyH_take (i := 4) (oi := { dst := some 21, op := Op.move (Operand.tmp 5), type := 3, pos := "waits.go:22", after := #[], guard := none }) (v := ?q5v) rfl (by kernel_rfl) (by kernel_rfl) (by kernel_rfl) (fun _ _ _ h => h) (Or.inl ⟨by rfl, ?q5h⟩) hHeld ?q5r
  case q5h => (intro wq hSw; clear hSw; go_simp; try with_reducible rfl)
  try simp only [Act.put, List.setIfInBounds_toArray, List.set_cons_zero, List.set_cons_succ]
  refine wpAnyH_take (i := 5) (oi := { dst := some 22, op := Op.slice 23 (Operand.tmp 20) none (some (Operand.tmp 21)) none, type := 23, pos := "waits.go:22", after := #[{ on := 3, ground := Ground.data }, { on := 4, ground := Ground.data }], guard := none }) (v := .slice (some ⟨g2, off2, none⟩) k cap2) rfl (by kernel_rfl) (by kernel_rfl) (by kernel_rfl) (fun _ _ _ h => h) (Or.inl ⟨by rfl, ?q6h⟩) hHeld ?q6r
  case q6h => (intro wq hSw; clear hSw; go_simp; try with_reducible rfl)
  try simp only [Act.put, List.setIfInBounds_toArray, List.set_cons_zero, List.set_cons_succ]
  refine wpAnyH_take (i := 8) (oi := { dst := some 25, op := Op.move (Operand.const (Value.int IntKind.i64 0)), type := 3, pos := "waits.go:22", after := #[], guard := none }) (v := ?q7v) rfl (by kernel_rfl) (by kernel_rfl) (by kernel_rfl) (fun _ _ _ h => h) (Or.inl ⟨by rfl, ?q7h⟩) hHeld ?q7r
  case q7h => (intro wq hSw; clear hSw; go_simp; try with_reducible rfl)
  try simp only [Act.put, List.setIfInBounds_toArray, List.set_cons_zero, List.set_cons_succ]
  refine wpAnyH_ready (rs := [6]) (by kernel_rfl) (by simp) ?_
  refine AllReadyH.cons (o := { dst := some 23, op := Op.buildSlice 83 2 #[(0, Operand.tmp 18), (1, Operand.tmp 22)], type := 83, pos := "waits.go:22", after := #[{ on := 1, ground := Ground.data }, { on := 5, ground := Ground.data }], guard := none }) rfl (fun K hK => ?_) (AllReadyH.nil)
  rw [if_pos (by rfl)]
  refine wp_build_vals rfl elem_gs HUS.out [.slice a t.held.length cap, .slice (some ⟨g2, off2, none⟩) k cap2] (by intro v hv; simp only [List.mem_cons, List.not_mem_nil, or_false] at hv; rcases hv with rfl | rfl <;> rfl) (Nat.succ_pos _) (by simp only [List.length_cons, List.length_nil]; omega) rfl (by simp only [List.map_toArray, List.map_cons, List.map_nil, List.zipIdx_cons, List.zipIdx_nil]; exact rfl) ?_
  have HS22 : Hid (Hp w [.ob (w.heap.size) 25 (tbCells (.slice a t.held.length cap) (.slice (some ⟨g2, off2, none⟩) t.wait.length cap2)), .ob b9 3 [.int .i64 tx], .ob (w21.drew.heap.size) 23 ([.slice a t.held.length cap, .slice (some ⟨g2, off2, none⟩) k cap2])] (w21.drew.alloc (.cells ([.slice a t.held.length cap, .slice (some ⟨g2, off2, none⟩) k cap2]).toArray 23))) := ((HS21.out).drew).put 23 ([.slice a t.held.length cap, .slice (some ⟨g2, off2, none⟩) k cap2])
  refine hK.out _ _ ((fun j v hv => by rw [Nat.zero_add]; exact (HS22.out).at 0 rfl j hv)) (fun hHeld => ?_)
  clear hK K
  generalize (w21.drew.alloc (.cells ([.slice a t.held.length cap, .slice (some ⟨g2, off2, none⟩) k cap2]).toArray 23)) = w22 at *
  generalize w21.drew.heap.size = B21 at *
  try simp only [Act.put, List.setIfInBounds_toArray, List.set_cons_zero, List.set_cons_succ]
  refine wpAnyH_take (i := 7) (oi := { dst := some 24, op := Op.call { callee := Callee.builtin Builtin.len, args := #[Operand.tmp 23], argTypes := #[83] }, type := 3, pos := "waits.go:22", after := #[{ on := 6, ground := Ground.data }], guard := none }) (v := ?q8v) rfl (by kernel_rfl) (by kernel_rfl) (by kernel_rfl) (fun _ _ _ h => h) (Or.inl ⟨by rfl, ?q8h⟩) hHeld ?q8r
  case q8h => (intro wq hSw; clear hSw; go_simp; try with_reducible rfl)
  try simp only [Act.put, List.setIfInBounds_toArray, List.set_cons_zero, List.set_cons_succ]
  refine wpAnyH_done (by kernel_rfl) ?_ _
  clear hHeld
  have HSn := Lib.hid (HS22.out.nil 3 1)
  go_wp2_with fail
  go_loopw [6, 25] (fun ov jv wr => ∃ (j : Nat) (acc : List Int), j ≤ 2 ∧ jv = .int .i64 j ∧ acc = inWay x (preL t.held (t.wait.take k) j) ∧ Hp w [.ob w.heap.size 25 (tbCells (.slice a t.held.length cap) (.slice (some ⟨g2, off2, none⟩) t.wait.length cap2)), .ob b9 3 [.int .i64 tx], .ob B21 23 [.slice a t.held.length cap, .slice (some ⟨g2, off2, none⟩) k cap2], .sl ov 3 1 (acc).length (intRow (acc))] wr) (fun _ jv _ => 2 - (intOf jv).toNat)
  case atStart => exact ⟨0, [], by omega, rfl, rfl, HSn.out⟩
  case round =>
    clear HSn HS22
    obtain ⟨j, acc, hj, rfl, hac, hs⟩ := hrel
    have HY := Lib.hid hs
    have HAc := Lib.hid hac
    clear hs hac
    by_cases hlt : j < 2
    · obtain ⟨l, la, lc, hcj, ⟨R3, hrd3, hin3⟩, hpre, hgo, hlen⟩ := HLs.out j hlt
      have cj : wr.cell? ⟨B21, j, none⟩ = some (.slice la l.length lc) := HY.out.at 2 rfl j hcj
      have hji : (j : Int) < 2 := by omega
      have hj0 : (0 : Int) ≤ (j : Int) := by omega
      have HJt := Lib.hid hlt
      have HPre := Lib.hid hpre
      have HGo := Lib.hid hgo
      have HLen := Lib.hid hlen
      have hl1 : (l.length : Int) ≤ 100000 := by omega
      have HRd3 := Lib.hid hrd3
      have HIn3 := Lib.hid hin3
      have HAl : Hid (acc.length ≤ 200000) := Lib.hid (by
        have h1 := inWay_len x (preL t.held (t.wait.take k) j)
        have h2 := HFew.out
        have h3 : (preL t.held (t.wait.take k) j).length ≤ 200000 := by
          rcases (show j = 0 ∨ j = 1 by omega) with rfl | rfl
          · exact Nat.zero_le _
          · show t.held.length ≤ _; omega
        rw [HAc.out]; omega)
      clear hcj hpre hgo hlen hlt hj hrd3 hin3 HLs
      go_wp2_with fail
      clear cj
      go_loopw [6, 31] (fun ov iv wr => ∃ (i : Nat) (acc2 : List Int), i ≤ l.length ∧ iv = .int .i64 i ∧ acc2 = acc ++ inWay x (l.take i) ∧ Hp w [.ob w.heap.size 25 (tbCells (.slice a t.held.length cap) (.slice (some ⟨g2, off2, none⟩) t.wait.length cap2)), .ob b9 3 [.int .i64 tx], .ob B21 23 [.slice a t.held.length cap, .slice (some ⟨g2, off2, none⟩) k cap2], .sl ov 3 1 (acc2).length (intRow (acc2))] wr) (fun _ iv _ => l.length - (intOf iv).toNat)
      case atStart => exact ⟨0, acc, by omega, rfl, by rw [List.take_zero]; exact (List.append_nil _).symm, HY.out⟩
      case round =>
        clear HY
        obtain ⟨i, acc2, hi, rfl, hac2, hs⟩ := hrel
        have HY := Lib.hid hs
        have HAc2 := Lib.hid hac2
        clear hs hac2
        by_cases hlt : i < l.length
        · obtain ⟨g0, off, rfl, hr⟩ := HRd3.out.base (by omega)
          obtain ⟨y, hy⟩ : ∃ y, l[i]? = some y := ⟨_, List.getElem?_eq_getElem hlt⟩
          have HRg : Hid (∀ W, Below w.heap.size w W → W.rangeAt g0 (off + i * 4) (grCells y)) := fun W hb => elem_rng (hr W (HIn3.out W hb)) hy
          have HYi := Lib.hid hy
          have hii : (i : Int) < (l.length : Int) := by omega
          have hi0 : (0 : Int) ≤ (i : Int) := by omega
          have HIt := Lib.hid hlt
          have HCf : Hid (∀ W, Calls Try.prog 61 #[.agg (grCells y).toArray, .agg (grCells x).toArray] W fun e w' => e = .returned (.bool (confB y x)) ∧ Below W.heap.size W w') := fun W => wconflict_any y x W (HGo.out y (List.mem_of_getElem? hy)) HGx.out
          have HNx : Hid (acc ++ inWay x (l.take (i + 1)) = acc2 ++ if confB y x = true then [y.tx] else []) := Lib.hid (by rw [HAc2.out, List.append_assoc, ← inWay_next hy])
          have HA2 : Hid (acc2.length + 1 ≤ 1048576) := Lib.hid (by
            have h1 := inWay_len x (l.take i)
            have h2 := HAl.out
            have h3 := HLen.out
            rw [HAc2.out, List.length_append]
            rw [List.length_take] at h1
            omega)
          clear hr hy hi hlt HAc2
          go_upto_region 11 with (first | ((with_reducible refine wpList_load_at 29 (.tmp 33) g0 ((off + i * 4)) (grCells y) HUG.out ?_ ?_ ?_ ?_ ?_); (exact rfl); (exact (HRg.out _ (HY.out).old)); (exact rfl); (exact info_gr); simp only [Act.put, List.setIfInBounds_toArray, List.set_cons_zero, List.set_cons_succ]) | ((with_reducible refine wpList_alloc_ob 29 (grCells grNil) ?_ ?_); (exact alloc_gr); simp only [Act.put, List.setIfInBounds_toArray, List.set_cons_zero, List.set_cons_succ]) | ((with_reducible refine wpList_store_ob 29 (.tmp 10) (wr.heap.size) (grCells y) (grCells grNil) 29 ?_ ?_ ?_ ?_ ?_ ?_ ?_); (exact rfl); (exact rfl); (exact ((HY.out).put 29 (grCells grNil)).get 4 rfl); (exact info_gr); (exact rfl); (exact (oneCell_gr _)); skip))
          have HS61 : Hid (Hp w [.ob (w.heap.size) 25 (tbCells (.slice a t.held.length cap) (.slice (some ⟨g2, off2, none⟩) t.wait.length cap2)), .ob b9 3 [.int .i64 tx], .ob B21 23 [.slice a t.held.length cap, .slice (some ⟨g2, off2, none⟩) k cap2], .sl u6 3 1 (acc2.length) (intRow acc2), .ob (wr.heap.size) 29 (grCells y)] ((wr.alloc (.cells (grCells grNil).toArray 29)).setRow (wr.heap.size) (grCells y).toArray)) := ((HY.out).put 29 (grCells grNil)).row 4 rfl (grCells y)
          clear HY
          generalize ((wr.alloc (.cells (grCells grNil).toArray 29)).setRow (wr.heap.size) (grCells y).toArray) = w61 at *
          generalize wr.heap.size = B61 at *
          generalize confB y x = cb at *
          cases cb
          case false =>
            refine wp_region_held_drew (S := fun w' => w'.rangeAt B61 0 (grCells y) ∧ w'.rangeAt w.heap.size 0 (tbCells (.slice a t.held.length cap) (.slice (some ⟨g2, off2, none⟩) t.wait.length cap2)) ∧ w'.rangeAt g2 (off2 + k * 4) (grCells x)) (by kernel_rfl) (⟨(fun j v hv => by rw [Nat.zero_add]; exact ((HS61.out).drew).at 4 rfl j hv), (fun j v hv => by rw [Nat.zero_add]; exact ((HS61.out).drew).at 0 rfl j hv), (HRg2.out _ ((HS61.out).drew).old)⟩) (fun hHeld => ?_)
            refine wpAnyH_take (i := 0) (oi := { dst := some 35, op := Op.load 29 (Operand.tmp 10), type := 29, pos := "waits.go:24", after := #[], guard := none }) rfl (by kernel_rfl) (by kernel_rfl) (by kernel_rfl) (fun _ _ _ h => h) (yieldsIf_load_mid (by rfl) 29 (.tmp 10) rfl B61 (0) rfl (grCells y) _ (fun _ h => h.1) HUG.out rfl (info_gr)) hHeld ?_
            try simp only [Act.put, List.setIfInBounds_toArray, List.set_cons_zero, List.set_cons_succ]
            refine wpAnyH_take (i := 1) (oi := { dst := some 36, op := Op.fieldAddr 25 (Operand.tmp 2) 1, type := 0, pos := "waits.go:24", after := #[], guard := none }) (v := ?q102v) rfl (by kernel_rfl) (by kernel_rfl) (by kernel_rfl) (fun _ _ _ h => h) (Or.inl ⟨by rfl, ?q102h⟩) hHeld ?q102r
            case q102h => (intro wq hSw; clear hSw; go_simp; try with_reducible rfl)
            try simp only [Act.put, List.setIfInBounds_toArray, List.set_cons_zero, List.set_cons_succ]
            refine wpAnyH_take (i := 2) (oi := { dst := some 37, op := Op.load 23 (Operand.tmp 36), type := 23, pos := "waits.go:24", after := #[{ on := 1, ground := Ground.data }], guard := none }) (v := .slice (some ⟨g2, off2, none⟩) t.wait.length cap2) rfl (by kernel_rfl) (by kernel_rfl) (by kernel_rfl) (fun _ _ _ h => h) (Or.inl ⟨by rfl, ?q103h⟩) hHeld ?q103r
            case q103h => (intro wq hSw; have lq := (hSw.2.1) 1 (.slice (some ⟨g2, off2, none⟩) t.wait.length cap2) rfl; simp only [Nat.zero_add] at lq; clear hSw; go_simp; try with_reducible rfl)
            try simp only [Act.put, List.setIfInBounds_toArray, List.set_cons_zero, List.set_cons_succ]
            refine wpAnyH_take (i := 3) (oi := { dst := some 38, op := Op.move (Operand.tmp 5), type := 3, pos := "waits.go:24", after := #[], guard := none }) (v := ?q104v) rfl (by kernel_rfl) (by kernel_rfl) (by kernel_rfl) (fun _ _ _ h => h) (Or.inl ⟨by rfl, ?q104h⟩) hHeld ?q104r
            case q104h => (intro wq hSw; clear hSw; go_simp; try with_reducible rfl)
            try simp only [Act.put, List.setIfInBounds_toArray, List.set_cons_zero, List.set_cons_succ]
            refine wpAnyH_take (i := 4) (oi := { dst := some 39, op := Op.indexAddr 23 (Operand.tmp 37) (Operand.tmp 38), type := 0, pos := "waits.go:24", after := #[{ on := 2, ground := Ground.data }, { on := 3, ground := Ground.data }], guard := none }) (v := ?q105v) rfl (by kernel_rfl) (by kernel_rfl) (by kernel_rfl) (fun _ _ _ h => h) (Or.inl ⟨by rfl, ?q105h⟩) hHeld ?q105r
            case q105h => (intro wq hSw; clear hSw; go_simp; try with_reducible rfl)
            try simp only [Act.put, List.setIfInBounds_toArray, List.set_cons_zero, List.set_cons_succ]
            refine wpAnyH_take (i := 5) (oi := { dst := some 40, op := Op.load 29 (Operand.tmp 39), type := 29, pos := "waits.go:24", after := #[{ on := 4, ground := Ground.data }], guard := none }) rfl (by kernel_rfl) (by kernel_rfl) (by kernel_rfl) (fun _ _ _ h => h) (yieldsIf_load_mid (by rfl) 29 (.tmp 39) rfl g2 (off2 + k * 4) rfl (grCells x) _ (fun _ h => h.2.2) HUG.out rfl (info_gr)) hHeld ?_
            try simp only [Act.put, List.setIfInBounds_toArray, List.set_cons_zero, List.set_cons_succ]
            refine wpAnyH_ready (rs := [6]) (by kernel_rfl) (by simp) ?_
            refine AllReadyH.cons (o := { dst := some 41, op := Op.call { callee := Callee.value (Operand.func 61), args := #[Operand.tmp 35, Operand.tmp 40], argTypes := #[29, 29] }, type := 4, pos := "waits.go:24", after := #[{ on := 0, ground := Ground.data }, { on := 5, ground := Ground.data }], guard := none }) rfl (fun K hK => ?_) (AllReadyH.nil)
            go_simp
            go_wp2_with (go_at_call 61; refine (HCf.out _).mono ?_; rintro e w81 ⟨rfl, hb⟩)
            have HS81 : Hid (Hp w [.ob (w.heap.size) 25 (tbCells (.slice a t.held.length cap) (.slice (some ⟨g2, off2, none⟩) t.wait.length cap2)), .ob b9 3 [.int .i64 tx], .ob B21 23 [.slice a t.held.length cap, .slice (some ⟨g2, off2, none⟩) k cap2], .sl u6 3 1 (acc2.length) (intRow acc2), .ob B61 29 (grCells y)] w81) := ((HS61.out).drew).calls hb
            refine hK.out _ _ (⟨(fun j v hv => by rw [Nat.zero_add]; exact (HS81.out).at 4 rfl j hv), (fun j v hv => by rw [Nat.zero_add]; exact (HS81.out).at 0 rfl j hv), (HRg2.out _ (HS81.out).old)⟩) (fun hHeld => ?_)
            clear hK K hb
            try simp only [Act.put, List.setIfInBounds_toArray, List.set_cons_zero, List.set_cons_succ]
            refine wpAnyH_done (by kernel_rfl) ?_ _
            clear hHeld
            have HS82 : Hid (Hp w [.ob (w.heap.size) 25 (tbCells (.slice a t.held.length cap) (.slice (some ⟨g2, off2, none⟩) t.wait.length cap2)), .ob b9 3 [.int .i64 tx], .ob B21 23 [.slice a t.held.length cap, .slice (some ⟨g2, off2, none⟩) k cap2], .sl u6 3 1 (acc2.length) (intRow acc2)] w81) := HS81.out.pull [0, 1, 2, 3] rfl (pull_nd HS81.out.nd [0, 1, 2, 3] rfl (by decide))
            clear HS81
            go_wp2_with fail
            go_roundw
            case rel =>
              refine ⟨i + 1, acc2, HIt.out, by go_num, ?_, HS82.out⟩
              rw [HNx.out, if_neg (by decide), List.append_nil]
            case measure => simp [intOf]; try (have := HIt.out; omega)
          case true =>
            refine wp_region_held_drew (S := fun w' => w'.rangeAt B61 0 (grCells y) ∧ w'.rangeAt w.heap.size 0 (tbCells (.slice a t.held.length cap) (.slice (some ⟨g2, off2, none⟩) t.wait.length cap2)) ∧ w'.rangeAt g2 (off2 + k * 4) (grCells x)) (by kernel_rfl) (⟨(fun j v hv => by rw [Nat.zero_add]; exact ((HS61.out).drew).at 4 rfl j hv), (fun j v hv => by rw [Nat.zero_add]; exact ((HS61.out).drew).at 0 rfl j hv), (HRg2.out _ ((HS61.out).drew).old)⟩) (fun hHeld => ?_)
            refine wpAnyH_take (i := 0) (oi := { dst := some 35, op := Op.load 29 (Operand.tmp 10), type := 29, pos := "waits.go:24", after := #[], guard := none }) rfl (by kernel_rfl) (by kernel_rfl) (by kernel_rfl) (fun _ _ _ h => h) (yieldsIf_load_mid (by rfl) 29 (.tmp 10) rfl B61 (0) rfl (grCells y) _ (fun _ h => h.1) HUG.out rfl (info_gr)) hHeld ?_
            try simp only [Act.put, List.setIfInBounds_toArray, List.set_cons_zero, List.set_cons_succ]
            refine wpAnyH_take (i := 1) (oi := { dst := some 36, op := Op.fieldAddr 25 (Operand.tmp 2) 1, type := 0, pos := "waits.go:24", after := #[], guard := none }) (v := ?q162v) rfl (by kernel_rfl) (by kernel_rfl) (by kernel_rfl) (fun _ _ _ h => h) (Or.inl ⟨by rfl, ?q162h⟩) hHeld ?q162r
            case q162h => (intro wq hSw; clear hSw; go_simp; try with_reducible rfl)
            try simp only [Act.put, List.setIfInBounds_toArray, List.set_cons_zero, List.set_cons_succ]
            refine wpAnyH_take (i := 2) (oi := { dst := some 37, op := Op.load 23 (Operand.tmp 36), type := 23, pos := "waits.go:24", after := #[{ on := 1, ground := Ground.data }], guard := none }) (v := .slice (some ⟨g2, off2, none⟩) t.wait.length cap2) rfl (by kernel_rfl) (by kernel_rfl) (by kernel_rfl) (fun _ _ _ h => h) (Or.inl ⟨by rfl, ?q163h⟩) hHeld ?q163r
            case q163h => (intro wq hSw; have lq := (hSw.2.1) 1 (.slice (some ⟨g2, off2, none⟩) t.wait.length cap2) rfl; simp only [Nat.zero_add] at lq; clear hSw; go_simp; try with_reducible rfl)
            try simp only [Act.put, List.setIfInBounds_toArray, List.set_cons_zero, List.set_cons_succ]
            refine wpAnyH_take (i := 3) (oi := { dst := some 38, op := Op.move (Operand.tmp 5), type := 3, pos := "waits.go:24", after := #[], guard := none }) (v := ?q164v) rfl (by kernel_rfl) (by kernel_rfl) (by kernel_rfl) (fun _ _ _ h => h) (Or.inl ⟨by rfl, ?q164h⟩) hHeld ?q164r
            case q164h => (intro wq hSw; clear hSw; go_simp; try with_reducible rfl)
            try simp only [Act.put, List.setIfInBounds_toArray, List.set_cons_zero, List.set_cons_succ]
            refine wpAnyH_take (i := 4) (oi := { dst := some 39, op := Op.indexAddr 23 (Operand.tmp 37) (Operand.tmp 38), type := 0, pos := "waits.go:24", after := #[{ on := 2, ground := Ground.data }, { on := 3, ground := Ground.data }], guard := none }) (v := ?q165v) rfl (by kernel_rfl) (by kernel_rfl) (by kernel_rfl) (fun _ _ _ h => h) (Or.inl ⟨by rfl, ?q165h⟩) hHeld ?q165r
            case q165h => (intro wq hSw; clear hSw; go_simp; try with_reducible rfl)
            try simp only [Act.put, List.setIfInBounds_toArray, List.set_cons_zero, List.set_cons_succ]
            refine wpAnyH_take (i := 5) (oi := { dst := some 40, op := Op.load 29 (Operand.tmp 39), type := 29, pos := "waits.go:24", after := #[{ on := 4, ground := Ground.data }], guard := none }) rfl (by kernel_rfl) (by kernel_rfl) (by kernel_rfl) (fun _ _ _ h => h) (yieldsIf_load_mid (by rfl) 29 (.tmp 39) rfl g2 (off2 + k * 4) rfl (grCells x) _ (fun _ h => h.2.2) HUG.out rfl (info_gr)) hHeld ?_
            try simp only [Act.put, List.setIfInBounds_toArray, List.set_cons_zero, List.set_cons_succ]
            refine wpAnyH_ready (rs := [6]) (by kernel_rfl) (by simp) ?_
            refine AllReadyH.cons (o := { dst := some 41, op := Op.call { callee := Callee.value (Operand.func 61), args := #[Operand.tmp 35, Operand.tmp 40], argTypes := #[29, 29] }, type := 4, pos := "waits.go:24", after := #[{ on := 0, ground := Ground.data }, { on := 5, ground := Ground.data }], guard := none }) rfl (fun K hK => ?_) (AllReadyH.nil)
            go_simp
            go_wp2_with (go_at_call 61; refine (HCf.out _).mono ?_; rintro e w141 ⟨rfl, hb⟩)
            have HS141 : Hid (Hp w [.ob (w.heap.size) 25 (tbCells (.slice a t.held.length cap) (.slice (some ⟨g2, off2, none⟩) t.wait.length cap2)), .ob b9 3 [.int .i64 tx], .ob B21 23 [.slice a t.held.length cap, .slice (some ⟨g2, off2, none⟩) k cap2], .sl u6 3 1 (acc2.length) (intRow acc2), .ob B61 29 (grCells y)] w141) := ((HS61.out).drew).calls hb
            refine hK.out _ _ (⟨(fun j v hv => by rw [Nat.zero_add]; exact (HS141.out).at 4 rfl j hv), (fun j v hv => by rw [Nat.zero_add]; exact (HS141.out).at 0 rfl j hv), (HRg2.out _ (HS141.out).old)⟩) (fun hHeld => ?_)
            clear hK K hb
            try simp only [Act.put, List.setIfInBounds_toArray, List.set_cons_zero, List.set_cons_succ]
            refine wpAnyH_done (by kernel_rfl) ?_ _
            clear hHeld
            have cx0 : w141.cell? ⟨B61, 0, none⟩ = some (.int .i64 y.tx) := HS141.out.at 4 rfl 0 rfl
            go_upto_region 12 with (fail)
            go_wp2_with (first | ((with_reducible refine wpList_build_vals 38 1 elem_i HUI.out [.int .i64 y.tx] ?_ ?_ ?_ ?_ ?_ ?_); (exact (by intro v hv; simp only [List.mem_cons, List.not_mem_nil, or_false] at hv; subst hv; rfl)); (exact Nat.succ_pos _); (simp only [List.length_cons, List.length_nil]; omega); (exact rfl); (simp only [List.map_toArray, List.map_cons, List.map_nil, List.zipIdx_cons, List.zipIdx_nil]; exact rfl); simp only [Act.put, List.setIfInBounds_toArray, List.set_cons_zero, List.set_cons_succ]) | ((with_reducible refine wpList_append_hp ((HS141.out).put 3 ([.int .i64 y.tx])) (.tmp 42) (.tmp 45) 38 3 (v := u6) (e := 3) (z := 1) (n := acc2.length) (xs := intRow acc2) ?_ 5 (b := (w141.heap.size)) (t' := 3) (ys := [.int .i64 y.tx]) ?_ HUI.out elem_i 1 1 ?_ ?_ ?_ ?_ ?_ ?_); (exact rfl); (exact rfl); (exact rfl); (exact rfl); (exact rfl); (exact (by intro u hu; simp only [List.mem_cons, List.not_mem_nil, or_false] at hu; subst hu; rfl)); (exact HA2.out)))
            intro v142 w142 hs hnil
            have HS143 : Hid (Hp w [.ob (w.heap.size) 25 (tbCells (.slice a t.held.length cap) (.slice (some ⟨g2, off2, none⟩) t.wait.length cap2)), .ob b9 3 [.int .i64 tx], .ob B21 23 [.slice a t.held.length cap, .slice (some ⟨g2, off2, none⟩) k cap2], .sl v142 3 1 (acc2.length + 1) ((intRow acc2) ++ ([.int .i64 y.tx])), .ob B61 29 (grCells y), .ob (w141.heap.size) 3 ([.int .i64 y.tx])] w142) := hs
            clear hs
            clear HS141
            generalize w141.heap.size = B141 at *
            have HS144 : Hid (Hp w [.ob (w.heap.size) 25 (tbCells (.slice a t.held.length cap) (.slice (some ⟨g2, off2, none⟩) t.wait.length cap2)), .ob b9 3 [.int .i64 tx], .ob B21 23 [.slice a t.held.length cap, .slice (some ⟨g2, off2, none⟩) k cap2], .sl v142 3 1 (acc2.length + 1) ((intRow acc2) ++ ([.int .i64 y.tx])), .ob B61 29 (grCells y), .ob B141 3 ([.int .i64 y.tx])] w142) := HS143.out
            clear HS143
            have HS145 : Hid (Hp w [.ob (w.heap.size) 25 (tbCells (.slice a t.held.length cap) (.slice (some ⟨g2, off2, none⟩) t.wait.length cap2)), .ob b9 3 [.int .i64 tx], .ob B21 23 [.slice a t.held.length cap, .slice (some ⟨g2, off2, none⟩) k cap2], .sl v142 3 1 (acc2.length + 1) ((intRow acc2) ++ ([.int .i64 y.tx]))] w142) := HS144.out.pull [0, 1, 2, 3] rfl (pull_nd HS144.out.nd [0, 1, 2, 3] rfl (by decide))
            clear HS144
            have HZ9 := Lib.hid (int_snoc (A := [.ob (w.heap.size) 25 (tbCells (.slice a t.held.length cap) (.slice (some ⟨g2, off2, none⟩) t.wait.length cap2)), .ob b9 3 [.int .i64 tx], .ob B21 23 [.slice a t.held.length cap, .slice (some ⟨g2, off2, none⟩) k cap2]]) HS145.out)
            clear cx0
            go_wp2_with fail
            go_roundw
            case rel =>
              refine ⟨i + 1, acc2 ++ [y.tx], HIt.out, by go_num, ?_, HZ9.out⟩
              first | rw [HNx.out, if_pos trivial] | rw [HNx.out, if_pos rfl]
            case measure => simp [intOf]; try (have := HIt.out; omega)
        · obtain rfl : i = l.length := by omega
          have HE2 : Hid (acc2 = inWay x (preL t.held (t.wait.take k) (j + 1))) := Lib.hid (by have := HAc2.out; rw [List.take_length, HAc.out, ← HPre.out] at this; exact this)
          clear hlt hi HAc2
          go_wp2_with fail
          go_roundw
          case rel => exact ⟨j + 1, acc2, HJt.out, by go_num, HE2.out, HY.out⟩
          case measure => simp [intOf]; try (have := HJt.out; omega)
    · obtain rfl : j = 2 := by omega
      have HE : Hid (res = onceI acc) := Lib.hid (by rw [HRes.out, HAc.out]; rfl)
      have HAl : Hid (acc.length ≤ 1000000) := Lib.hid (by
        have h1 := inWay_len x (t.held ++ t.wait.take k)
        have h2 := HFew.out
        have h3 : (t.held ++ t.wait.take k).length ≤ 200000 := by rw [List.length_append, List.length_take]; omega
        rw [HAc.out]
        show (inWay x (t.held ++ t.wait.take k)).length ≤ _
        omega)
      clear hlt hj HAc
      go_wp2_with fail
      refine (sort_own HY.out 3 rfl HAl.out).mono ?_
      rintro e w7 ⟨rfl, hs7⟩
      have HS7 := Lib.hid hs7
      clear hs7 HY
      go_wp2_with fail
      refine (compact_own HS7.out 3 rfl (by rw [sortI_len]; exact HAl.out)).mono ?_
      rintro e w8 ⟨v8, rfl, hs8⟩
      have HS8 := Lib.hid hs8
      clear hs8 HS7
      go_wp2_with fail
      go_ret
      rw [HE.out]
      exact int_hand (HS8.out.own 3 rfl) HS8.out.old
end Go.Proofs.Ytooaldglgkjjgaa
/- the program's For (waits) -/
namespace Go.Proofs.Ytooaldglgkjjgaa
open Go.RowKit
set_option maxRecDepth 20000
set_option linter.unusedSimpArgs false
set_option linter.unusedVariables false

theorem for_invalid {t : Tb} {tx : Int} (h : tbOkB t = false) : forR t tx = [] := for_no (by unfold waitR; rw [h]; rfl)
set_option maxHeartbeats 8000000 in
theorem pfor_any {h v : Value} {t : Tb} {R : List Rng} (tx : Int) (w : World) (ht : TbRd h v t R) (hR : RdIn w R) (hg : GoodTb t) :
    Calls Try.prog 12 #[.agg (tbCells h v).toArray, .int .i64 tx] w (IntsPost w (forR t tx)) := by
  have HVa : Hid (∀ W, Below w.heap.size w W → Calls Try.prog 29 #[.agg (tbCells h v).toArray] W fun e w' => e = .returned (.bool (tbOkB t)) ∧ Below W.heap.size W w') := fun W hb => plkvalid_any W ht (hR.below hb) hg
  have HAw : Hid (tbOkB t = true → ∀ W, Below w.heap.size w W → Calls Try.prog 31 #[.agg (tbCells h v).toArray, .int .i64 tx] W (IntsPost W (forR t tx))) := fun hok W hb => pawait_any tx W ht (hR.below hb) hg hok
  have HNo : Hid (tbOkB t = false → forR t tx = []) := for_invalid
  obtain ⟨a, cap, rfl, hnc, hcm⟩ := ht.1.shape
  obtain ⟨a2, cap2, rfl, hnc2, hcm2⟩ := ht.2.shape
  clear ht hR hg hnc hcm hnc2 hcm2
  generalize forR t tx = res at *
  generalize tbOkB t = ok at *
  have h1 := (Hp.start w).put 25 (tbCells (.slice a t.held.length cap) (.slice a2 t.wait.length cap2))
  simp only [List.nil_append] at h1
  have HS0 : Hid (Hp w [.ob w.heap.size 25 (tbCells (.slice a t.held.length cap) (.slice a2 t.wait.length cap2))] (w.alloc (.cells (tbCells (.slice a t.held.length cap) (.slice a2 t.wait.length cap2)).toArray 25))) := h1
  clear h1
  obtain ⟨fsHUG, huHUG⟩ := under_gr
  have HUG := Lib.hid huHUG
  clear huHUG
  obtain ⟨fsHUT, huHUT⟩ := under_tb
  have HUT := Lib.hid huHUT
  clear huHUT
  go_enter Try.func12, Try.ntmps12
  go_upto_region 1 with (fail)
  generalize (w.alloc (.cells (tbCells (.slice a t.held.length cap) (.slice a2 t.wait.length cap2)).toArray 25)) = w1 at *
  go_wp2_with (first | ((with_reducible refine wpList_load_ob 25 (.tmp 2) (w.heap.size) (tbCells (.slice a t.held.length cap) (.slice a2 t.wait.length cap2)) 25 HUT.out ?_ ?_ ?_ ?_ ?_); (exact rfl); (exact (HS0.out).get 0 rfl); (exact rfl); (exact info_tb); simp only [Act.put, List.setIfInBounds_toArray, List.set_cons_zero, List.set_cons_succ]))
  refine (HVa.out _ (HS0.out).old).mono ?_
  rintro e w21 ⟨rfl, hb⟩
  have HS21 : Hid (Hp w [.ob (w.heap.size) 25 (tbCells (.slice a t.held.length cap) (.slice a2 t.wait.length cap2))] w21) := (HS0.out).calls hb
  clear hb
  clear HS0
  cases ok
  · have HR0 := Lib.hid (HNo.out rfl)
    go_wp2_with fail
    go_ret
    rw [HR0.out]
    exact int_none HS21.out.old
  have HAw2 := Lib.hid (HAw.out rfl)
  clear HNo HAw HVa
  go_upto_region 3 with (fail)
  go_wp2_with (first | ((with_reducible refine wpList_load_ob 25 (.tmp 2) (w.heap.size) (tbCells (.slice a t.held.length cap) (.slice a2 t.wait.length cap2)) 25 HUT.out ?_ ?_ ?_ ?_ ?_); (exact rfl); (exact (HS21.out).get 0 rfl); (exact rfl); (exact info_tb); simp only [Act.put, List.setIfInBounds_toArray, List.set_cons_zero, List.set_cons_succ]))
  have HSz := Lib.hid HS21.out.old.size
  refine (HAw2.out _ (HS21.out).old).mono ?_
  rintro e w22 ⟨v9, R9, rfl, hrd2, hin2, hnew2, hb⟩
  obtain ⟨a9, c9, rfl, hl9, hm9, hg9⟩ := hrd2.cells
  have Hrd9 := Lib.hid hrd2
  have Hnw9 := Lib.hid hnew2
  have Hgc9 := Lib.hid hg9
  clear hg9
  have HS22 : Hid (Hp w [.ob (w.heap.size) 25 (tbCells (.slice a t.held.length cap) (.slice a2 t.wait.length cap2)), .rd R9] w22) := (HS21.out).addrd hb R9 hin2 (fun r hr => .inl (hnew2 r hr))
  clear hb hin2 hrd2 hnew2
  clear HS21
  go_wp2_with fail
  go_ret
  exact ⟨_, R9, rfl, Hrd9.out, HS22.out.reads 1 rfl, fun r hr => Nat.le_trans HSz.out (Hnw9.out r hr), HS22.out.old⟩
end Go.Proofs.Ytooaldglgkjjgaa
/- the walk of the reference's Copy -/
namespace Go.Proofs.Ytooaldglgkjjgaa
open Go.RowKit
set_option maxRecDepth 20000

theorem one_ints (l : List Int) : ∀ u ∈ intRow l, u.oneCell' = true := fun u hu => by
  obtain ⟨s, _, rfl⟩ := List.mem_map.1 hu
  rfl
theorem SlRd.one {v : Value} {z n : Nat} {xs : List Value} {R : List Rng} (h : SlRd v z n xs R) : v.oneCell' = true := by
  obtain ⟨a, cap, rfl, _⟩ := h
  rfl
end Go.Proofs.Ytooaldglgkjjgaa
/- the library's Grow of a nil list of numbers, and Concat of two lists of numbers -/
namespace Go.Proofs.Ytooaldglgkjjgaa
open Go.RowKit
set_option maxRecDepth 20000
set_option linter.unusedSimpArgs false
set_option linter.unusedVariables false

theorem info_iz : (Try.prog.info? 3).map (fun i => (i.zero, i.size, i.bytes)) = some (some (.int .i64 0), 1, 8) := by kernel_rfl
theorem info_full {t : TypeId} {z : Value} {s b : Nat} (h : (Try.prog.info? t).map (fun i => (i.zero, i.size, i.bytes)) = some (some z, s, b)) : ∃ i, Try.prog.info? t = some i ∧ i.zero = some z ∧ i.size = s ∧ i.bytes = b := by
  cases hi : Try.prog.info? t with
  | none => rw [hi] at h; cases h
  | some i =>
    rw [hi] at h
    simp only [Option.map_some, Option.some.injEq, Prod.mk.injEq] at h
    exact ⟨i, rfl, h.1, h.2.1, h.2.2⟩
set_option maxHeartbeats 8000000 in
theorem growI_any (n : Nat) (w : World) (h0 : 0 < n) (hn : n ≤ 1000000) :
    Calls Try.prog 63 #[.slice none 0 0, .int .i64 n] w fun e w' => ∃ u, e = .returned u ∧ w'.ownsRow w.heap.size 3 1 u 0 [] ∧ Below w.heap.size w w' := by
  obtain ⟨i0, hi0, hz0, hzs, hzb⟩ := info_full info_iz
  obtain ⟨G, hG⟩ : ∃ G, G = grownCap w n 0 3 := ⟨_, rfl⟩
  have hGn : n ≤ G := by rw [hG]; exact grownCap_ge w _ _ _
  have hGm : G ≤ maxLen := by rw [hG]; exact grownCap_le_maxLen w _ _ _ (by unfold maxLen; omega)
  have hr := Lib.run_append_nil_zeros (P := Try.prog) w 38 3 38 3 i0 _ .i64 .i64 Try.underlying38 Try.underlying3 hi0 hz0 n h0 (by omega) (by omega) (by rw [hzb]; omega)
  rw [← hG] at hr
  obtain ⟨Z, hZ⟩ : ∃ Z, Z = Builtin.zeroCells (Value.int .i64 0).cells n ++ Builtin.zeroCells (Value.int .i64 0).cells (G - n) := ⟨_, rfl⟩
  rw [← hZ] at hr
  have hZs : Z.size = G := by
    rw [hZ, Array.size_append]
    simp [Builtin.zeroCells, Value.cells]
    omega
  obtain ⟨w1, hw1⟩ : ∃ w1, w1 = w.drew.alloc (.cells Z 3) := ⟨_, rfl⟩
  rw [← hw1] at hr
  have HG1 : Hid (w1.ownsRow w.heap.size 3 1 (.slice (some ⟨w.heap.size, 0, none⟩) 0 G) 0 []) := by
    refine ⟨rfl, .inr ⟨w.heap.size, G, Z, rfl, Nat.le_refl _, ?_, Nat.zero_le _, hGm, by rw [hZs, Nat.mul_one], by simp⟩⟩
    rw [hw1]
    exact heap_alloc_last w.drew _
  have HB1 : Hid (Below w.heap.size w w1) := by
    rw [hw1]
    exact (Below.refl w.heap.size w).drew.alloc (Nat.le_refl _) _
  have hni : (0 : Int) < (n : Int) := by omega
  have hn0 : ¬ (n : Int) < 0 := by omega
  have hnm : (n : Int) ≤ 1000000 := by omega
  have hG0 : ¬ G = 0 := by omega
  clear hw1 hZ hZs hGm hG hi0 hz0 hzs hzb hn h0
  go_enter Try.func63, Try.ntmps63
  go_wp2_with (at_builtin; refine Lib.wpList_append_run _ rfl (.tmp 20) (.tmp 21) _ _ rfl _ _ rfl rfl _ _ hr ?_)
  go_ret
  exact ⟨_, rfl, HG1.out, HB1.out⟩
/-- what stands in the list of the two -/
def lenTo (a b : List Int) : Nat → List Int
  | 0 => []
  | 1 => a
  | _ => a ++ b
set_option maxHeartbeats 16000000 in
theorem concat_any (l1 l2 : List Int) (v1 v2 : Value) (b : Nat) (R : List Rng) (w : World) (hb : RdIn w [(b, 0, [v1, v2])]) (h1 : IntRd v1 l1 R) (h2 : IntRd v2 l2 R) (hR : RdIn w R) (hl : l1.length + l2.length ≤ 1000000) (h0 : 0 < l1.length + l2.length) :
    Calls Try.prog 36 #[.slice (some ⟨b, 0, none⟩) 2 2] w fun e w' => ∃ u, e = .returned u ∧ w'.ownsRow w.heap.size 3 1 u (l1 ++ l2).length (intRow (l1 ++ l2)) ∧ Below w.heap.size w w' := by
  have HLs : Hid (∀ j, j < 2 → ∃ (l : List Int) (a : Option Addr) (c : Nat), ([v1, v2] : List Value)[j]? = some (.slice a l.length c) ∧ IntRd (.slice a l.length c) l R ∧ lenTo l1 l2 (j + 1) = lenTo l1 l2 j ++ l) := by
    intro j hj
    obtain ⟨a, c, e1, _⟩ := IntRd.cells h1
    obtain ⟨a', c', e2, _⟩ := IntRd.cells h2
    rcases (show j = 0 ∨ j = 1 by omega) with rfl | rfl
    · exact ⟨l1, a, c, by rw [e1]; rfl, by rw [← e1]; exact h1, rfl⟩
    · exact ⟨l2, a', c', by rw [e2]; rfl, by rw [← e2]; exact h2, rfl⟩
  have HLe : Hid (∀ j, j ≤ 2 → (lenTo l1 l2 j).length ≤ 1000000) := by
    intro j hj
    rcases (show j = 0 ∨ j = 1 ∨ j = 2 by omega) with rfl | rfl | rfl
    · exact Nat.zero_le _
    · show l1.length ≤ _; omega
    · show (l1 ++ l2).length ≤ _; rw [List.length_append]; omega
  have HTo : Hid (lenTo l1 l2 2 = l1 ++ l2) := rfl
  have HT0 : Hid (lenTo l1 l2 0 = []) := rfl
  have HP0 : Hid (0 < (l1 ++ l2).length) := Lib.hid (by rw [List.length_append]; exact h0)
  have HS0 := Lib.hid (Hp.startrd w ((b, 0, [v1, v2]) :: R) (fun r hr => (List.mem_cons.1 hr).elim (fun e => hb r (by rw [e]; exact List.mem_cons_self ..)) (hR r)))
  have HUI : Hid (Try.prog.underlying 38 = some (.slice 3)) := Try.underlying38
  generalize lenTo l1 l2 = lt at *
  generalize l1 ++ l2 = lr at *
  have hbl : Hid (∀ W, RdIn W ((b, 0, [v1, v2]) :: R) → ∀ (j : Nat) v, ([v1, v2] : List Value)[j]? = some v → W.cell? ⟨b, j, none⟩ = some v) := fun W h j v hv => by
    have := (h _ (List.mem_cons_self ..)).2 j v hv
    rwa [Nat.zero_add] at this
  clear hb h1 h2 hR hl h0
  go_enter Try.func36, Try.ntmps36
  go_wp2_with fail
  go_loopw [3, 11] (fun sv jv wr => ∃ j : Nat, j ≤ 2 ∧ jv = .int .i64 j ∧ sv = .int .i64 ((lt j).length : Nat) ∧ Hp w [.rd ((b, 0, [v1, v2]) :: R)] wr) (fun _ jv _ => 2 - (intOf jv).toNat)
  case atStart => exact ⟨0, by omega, rfl, by rw [HT0.out]; rfl, HS0.out⟩
  case round =>
    clear HS0
    obtain ⟨j, hj, rfl, rfl, hs⟩ := hrel
    have HY := Lib.hid hs
    clear hs
    by_cases hlt : j < 2
    · obtain ⟨l, a, c, hcj, hrd, hto⟩ := HLs.out j hlt
      have cj : wr.cell? ⟨b, j, none⟩ = some (.slice a l.length c) := hbl.out wr (HY.out.reads 0 rfl) j _ hcj
      have hln := HLe.out (j + 1) (by omega)
      have hle : ((lt (j + 1)).length : Int) = ((lt j).length : Int) + (l.length : Int) := by rw [hto, List.length_append]; omega
      have HLn : Hid ((lt (j + 1)).length = (lt j).length + l.length) := Lib.hid (by rw [hto, List.length_append])
      have hw1 : IntKind.i64.wrap (((lt j).length : Int) + (l.length : Int)) = ((lt j).length : Int) + (l.length : Int) := by rw [IntKind.wrap_i64]; omega
      have hnn : decide (((lt j).length : Int) + (l.length : Int) < 0) = false := decide_eq_false (by omega)
      have hnn2 : ¬ (((lt j).length : Int) + (l.length : Int) < 0) := by omega
      have hji : (j : Int) < 2 := by omega
      have hj0 : (0 : Int) ≤ (j : Int) := by omega
      have HJt := Lib.hid hlt
      clear hcj hrd hto hln hle hlt hj
      go_wp2_with fail
      go_roundw
      case rel => exact ⟨j + 1, HJt.out, by go_num, by rw [HLn.out]; rfl, HY.out⟩
      case measure => simp [intOf]; try (have := HJt.out; omega)
    · obtain rfl : j = 2 := by omega
      have hto : lt 2 = lr := HTo.out
      rw [hto]
      have hpos : 0 < lr.length := HP0.out
      have hln : lr.length ≤ 1000000 := by rw [← hto]; exact HLe.out 2 (by omega)
      have HGr : Hid (∀ W, Calls Try.prog 63 #[.slice none 0 0, .int .i64 lr.length] W fun e w' => ∃ u, e = .returned u ∧ w'.ownsRow W.heap.size 3 1 u 0 [] ∧ Below W.heap.size W w') := fun W => growI_any lr.length W hpos hln
      clear hto hpos hln hlt hj
      go_wp2_with (go_at_call 63; refine (HGr.out _).mono ?_; rintro e w2 ⟨u0, rfl, ho, hb⟩)
      have HX0 := Lib.hid (HY.out.addown hb ho)
      clear HY hb ho HGr
      go_loopw [6, 27] (fun ov jv wr => ∃ (j : Nat) (acc : List Int), j ≤ 2 ∧ jv = .int .i64 j ∧ acc = lt j ∧ Hp w [.rd ((b, 0, [v1, v2]) :: R), .sl ov 3 1 acc.length (intRow acc)] wr) (fun _ jv _ => 2 - (intOf jv).toNat)
      case atStart => exact ⟨0, [], by omega, rfl, HT0.out.symm, HX0.out⟩
      case round =>
        clear HX0
        obtain ⟨j, acc, hj, rfl, hac, hs⟩ := hrel
        have HY := Lib.hid hs
        have HAc := Lib.hid hac
        clear hs hac
        by_cases hlt : j < 2
        · obtain ⟨l, a, c, hcj, hrd, hto⟩ := HLs.out j hlt
          have cj : wr.cell? ⟨b, j, none⟩ = some (.slice a l.length c) := hbl.out wr (HY.out.reads 0 rfl) j _ hcj
          have HRd := Lib.hid hrd
          have HLn : Hid (acc.length + l.length ≤ 1048576) := Lib.hid (by
            have := HLe.out (j + 1) (by omega)
            rw [hto, List.length_append, ← HAc.out] at this
            omega)
          have HTo2 : Hid (lt (j + 1) = acc ++ l) := Lib.hid (by rw [hto, HAc.out])
          have hji : (j : Int) < 2 := by omega
          have hj0 : (0 : Int) ≤ (j : Int) := by omega
          have HJt := Lib.hid hlt
          clear hcj hrd hto hlt hj
          go_wp2_with (first | ((with_reducible refine wpList_append_sl (HY.out) (.tmp 31) (.tmp 32) 38 1 (v := u6) (n := acc.length) (xs := intRow acc) ?_ (xv := .slice a l.length c) (m := l.length) (ys := intRow l) (R := R) ?_ ?_ HUI.out elem_i ?_ ?_ ?_ ?_ ?_); (exact rfl); (exact HRd.out); (exact (HY.out.reads 0 rfl).sub (fun r hr => List.mem_cons_of_mem _ hr)); (exact rfl); (exact rfl); (exact (one_ints _)); (exact HLn.out)))
          intro v9 w9 hs9
          have hs8 : Hp w [.rd ((b, 0, [v1, v2]) :: R), .sl v9 3 1 (acc ++ l).length (intRow (acc ++ l))] w9 := by
            have e : intRow (acc ++ l) = intRow acc ++ intRow l := by unfold intRow; rw [List.map_append]
            rw [e, List.length_append]; exact hs9
          have HS8 := Lib.hid hs8
          clear hs8 hs9 cj
          go_wp2_with fail
          go_roundw
          case rel => exact ⟨j + 1, acc ++ l, HJt.out, by go_num, HTo2.out.symm, HS8.out⟩
          case measure => simp [intOf]; try (have := HJt.out; omega)
        · obtain rfl : j = 2 := by omega
          have HE : Hid (acc = lr) := Lib.hid (by rw [HAc.out, HTo.out])
          clear hlt hj HAc
          go_wp2_with fail
          go_ret
          rw [← HE.out]
          exact ⟨_, rfl, HY.out.own 1 rfl, HY.out.old⟩
end Go.Proofs.Ytooaldglgkjjgaa
/- an element of a slice of its own is written, whole -/
namespace Go.Proofs.Ytooaldglgkjjgaa
open Go.RowKit
set_option maxRecDepth 20000

theorem run_injA {a b : World} (h : (Result.ok () a : Result Unit) = .ok () b) : a = b := by injection h
theorem setCells_rowA {W : World} {g o : Nat} {cs cur : List Value} {t : TypeId} (hg : W.heap[g]? = some (.cells cur.toArray t (0, 0))) (hfit : o + cs.length ≤ cur.length) (h1 : ∀ v ∈ cs, v.oneCell' = true) :
    W.setCells g o cs = W.setRow g (cur.take o ++ cs ++ cur.drop (o + cs.length)).toArray := by
  have a := run_storeCells_at Try.prog g o t cs 0 cur.toArray W hg (by simpa using hfit) h1
  have b := run_storeCells_cells (P := Try.prog) g o cs 0 W (fun j hj => by
    rw [Nat.add_zero, cell_of_row W g (o + j) _ _ _ hg, List.getElem?_toArray, List.getElem?_eq_getElem (by omega)]; rfl) (fun j hj => frozen_of_row _ _ _ _ _ hg) h1
  rw [a] at b
  simp only [Nat.add_zero] at b
  rw [← run_injA b]
end Go.Proofs.Ytooaldglgkjjgaa
/- the reference's Cycle and Would of chapter 9 -/
namespace Go.Proofs.Ytooaldglgkjjgaa
open Go.RowKit
set_option maxRecDepth 20000
set_option linter.unusedSimpArgs false
set_option linter.unusedVariables false

/-- a block of one's own is read from now on -/
theorem Hp.obrd {w W : World} {A : List Th} {b : Nat} {e : TypeId} {cs : List Value} (h : Hp w (A ++ [.ob b e cs]) W) : w.heap.size ≤ b ∧ Hp w (A ++ [.rd [(b, 0, cs)]]) W := by
  have ho : (Th.ob b e cs).In w.heap.size W := h.all _ (List.mem_append_right _ (List.mem_singleton.2 rfl))
  obtain ⟨ha, _, hc⟩ := List.pairwise_append.1 h.nd
  refine ⟨ho.1, h.old, fun x hx => ?_, ?_⟩
  · rcases List.mem_append.1 hx with hx | hx
    · exact h.all x (List.mem_append_left _ hx)
    · obtain rfl := List.mem_singleton.1 hx
      intro r hr
      obtain rfl := List.mem_singleton.1 hr
      refine ⟨(Array.getElem?_eq_some_iff.1 ho.2).1, fun j u hu => ?_⟩
      rw [Nat.zero_add, cell_of_row W b j _ _ _ ho.2, List.getElem?_toArray]; exact hu
  · rw [List.pairwise_append]
    refine ⟨ha, List.pairwise_singleton _ _, fun a ham c hb => ?_⟩
    obtain rfl := List.mem_singleton.1 hb
    have hap := hc a ham _ (List.mem_singleton.2 rfl)
    refine ⟨fun c hac => ⟨fun hbc => (by cases hbc), fun hbr => ?_⟩, fun c hbc => (by cases hbc)⟩
    obtain ⟨r, hr, rfl⟩ := List.mem_map.1 hbr
    obtain rfl := List.mem_singleton.1 hr
    exact (hap.1 _ hac).1 rfl
theorem one_rd (b : Nat) (x : Int) : IntRd (.slice (some ⟨b, 0, none⟩) 1 1) [x] [(b, 0, [.int .i64 x])] :=
  ⟨some ⟨b, 0, none⟩, 1, rfl, rfl, Nat.le_refl _, by decide, fun _ => ⟨b, 0, rfl, List.mem_singleton.2 rfl⟩, fun h => by cases h⟩
theorem req_ok {t : Tb} {g : Gr} (h : (requestR t g).2.2 = 0) : TbOk t := by
  refine tbOkB_iff.1 ?_
  unfold requestR at h
  split at h
  · exact absurd h (by decide)
  · next h9 => simpa using h9
/-- a list and an error, handed back -/
def WouldPost (w : World) (x : List Int × Int) (e : Ending) (w' : World) : Prop := ∃ v R, e = .returned (.tuple #[v, .int .i64 x.2]) ∧ IntRd v x.1 R ∧ RdIn w' R ∧ (∀ r ∈ R, w.heap.size ≤ r.1) ∧ Below w.heap.size w w'
end Go.Proofs.Ytooaldglgkjjgaa
/- a queue of ways in memory, and a set of those who have been reached -/
namespace Go.Proofs.Ytooaldglgkjjgaa
open Go.RowKit
set_option maxRecDepth 20000
set_option linter.unusedSimpArgs false
set_option linter.unusedVariables false

theorem elem_is : ElemIs 38 1 24 := elem_of (z := .slice none 0 0) (by kernel_rfl) rfl (by decide) (by decide) (by decide)
theorem run_makeSet0 (w : World) : (Instr.makeMap 63 none).run Try.prog w = .ok (.map (some w.heap.size)) (w.alloc (.map #[] 0)) := by
  simp [Instr.makeMap, run_underlying Try.underlying63, asInt, asIntOf]
/-- what is beside a block that is written -/
theorem Hp.others {w W W' : World} {L : List Th} (h : Hp w L W) {b : Nat} (hb : w.heap.size ≤ b) (hn : ∀ x ∈ L, x.blk ≠ some b ∧ b ∉ x.reads) (hg : W.grownBy W' (some b)) : Hp w L W' := by
  have hold : ∀ k, k < w.heap.size → W'.heap[k]? = W.heap[k]? := fun k hk => hg.block k (Nat.lt_of_lt_of_le hk h.old.size) (fun e => by have := Option.some.inj e; omega)
  refine ⟨⟨hg.os.trans h.old.os, hg.tape.trans h.old.tape, hg.output.trans h.old.output, Nat.le_trans h.old.size hg.size, fun k hk => (hold k hk).trans (h.old.block k hk)⟩, fun x hx => ?_, h.nd⟩
  exact (h.all x hx).keep hg.size (fun c hc => hg.block c ((h.all x hx).from hc).2 (fun e => (hn x hx).1 (by rw [hc]; exact e))) hold (fun c hc => hg.block c ((h.all x hx).reads_lt hc) (fun e => (hn x hx).2 (by rw [← Option.some.inj e]; exact hc)))
/-- what was there, and what has come since -/
theorem Hp.meet {w W0 W : World} {L M : List Th} (h : Hp w L W0) (k : Hp W0 M W) (hM : ∀ x ∈ M, x.In w.heap.size W) (hr : ∀ x ∈ M, ∀ b ∈ x.reads, W0.heap.size ≤ b ∨ ∃ z ∈ L, b ∈ z.reads) : Hp w (L ++ M) W := by
  have h2 := h.calls k.old
  refine ⟨h2.old, fun x hx => ?_, ?_⟩
  · rcases List.mem_append.1 hx with hx | hx
    · exact h2.all x hx
    · exact hM x hx
  · rw [List.pairwise_append]
    refine ⟨h.nd, k.nd, fun x hx y hy => ⟨fun b hb => ⟨fun hyb => ?_, fun hyr => ?_⟩, fun b hyb hxr => ?_⟩⟩
    · have h3 := ((h.all x hx).from hb).2
      have h4 := ((k.all y hy).from hyb).1
      omega
    · rcases hr y hy b hyr with h3 | ⟨z, hz, hzr⟩
      · have h4 := ((h.all x hx).from hb).2
        omega
      · exact h.reads_apart hx hz hb hzr
    · have h3 := (h.all x hx).reads_lt hxr
      have h4 := ((k.all y hy).from hyb).1
      omega
/-- what appending to a queue has done -/
structure QueOut (w W : World) (L : List Th) (i g off n : Nat) (cs : List Value) (u : Value) (g' off' cap' : Nat) (cs' : List Value) (W' : World) : Prop where
  hp : Hp w (L.set i (.ob g' 38 cs')) W'
  fit : off' + cap' ≤ cs'.length ∧ n + 1 ≤ cap' ∧ cap' ≤ maxLen
  same : ∀ k, k < n → cs'[off' + k]? = cs[off + k]?
  last : cs'[off' + n]? = some u
  grown : W.grownBy W' (some g)
  blk : g' = g ∨ W.heap.size ≤ g'
theorem que_append {w W : World} {L : List Th} (h : Hp w L W) (i : Nat) {g : Nat} {cs : List Value} (ei : L[i]? = some (.ob g 38 cs)) (j : Nat) {b : Nat} {t' : TypeId} {u : Value} (ej : L[j]? = some (.ob b t' [u])) (hu : u.oneCell' = true) (ty : TypeId) {off n cap : Nat} (hcap : off + cap ≤ cs.length) (hn : n ≤ cap) (hm : cap ≤ maxLen) (hb : n + 1 ≤ 1048576) :
    ∃ g' off' cap' cs' W', (Builtin.append_ #[64, 64] ty #[.slice (some ⟨g, off, none⟩) n cap, .slice (some ⟨b, 0, none⟩) 1 1]).run Try.prog W = .ok (.slice (some ⟨g', off', none⟩) (n + 1) cap') W' ∧ QueOut w W L i g off n cs u g' off' cap' cs' W' := by
  obtain ⟨inf, zv, hi, hz, hsize, hby, hzs⟩ := elem_is.is
  have hroom := elem_is.room
  have ht := Try.underlying64
  have hg := h.get i ei
  have hcell : ∀ q v, ([u] : List Value)[q]? = some v → W.cell? ((⟨b, 0, none⟩ : Addr).add q) = some v := fun q v hv => by
    rw [Addr.add_mid, Nat.zero_add]
    exact h.at j ej q hv
  by_cases hc : n + 1 ≤ cap
  · have hlt : off + n < cs.length := by omega
    have hr := run_append_room_cells (P := Try.prog) W 64 ty 38 inf ht hi g off n cap ⟨b, 0, none⟩ 1 1 [u] (by rw [hsize]; rfl) hcell (fun v hv => by rw [List.mem_singleton.1 hv]; exact hu) hc
      (fun q hq => by
        obtain rfl : q = 0 := by simpa using hq
        rw [hsize, Nat.mul_one, Nat.add_zero, cell_of_row W g (off + n) _ _ _ hg, List.getElem?_toArray, List.getElem?_eq_getElem hlt]; rfl)
      (fun q hq => frozen_of_row _ _ _ _ _ hg)
    rw [hsize, Nat.mul_one] at hr
    have hrow := setCells_rowA (o := off + n) (cs := [u]) hg (by rw [List.length_singleton]; omega) (fun v hv => by rw [List.mem_singleton.1 hv]; exact hu)
    rw [hrow] at hr
    have ll : (cs.take (off + n)).length = off + n := by rw [List.length_take]; omega
    refine ⟨g, off, cap, _, _, hr, h.row i ei _, ⟨?_, hc, hm⟩, fun k hk => ?_, ?_, ⟨rfl, rfl, rfl, by simp [World.setRow], fun q hq hne => setRow_other W g q _ (fun e => hne (by rw [e]))⟩, .inl rfl⟩
    · rw [List.length_append, List.length_append, List.length_drop, ll, List.length_singleton]; omega
    · rw [List.append_assoc, List.getElem?_append_left (by rw [ll]; omega), List.getElem?_take_of_lt (by omega)]
    · rw [List.append_assoc, List.getElem?_append_right (by rw [ll]; omega), ll, Nat.sub_self]; rfl
  · obtain rfl : cap = n := by omega
    have hol : ((cs.drop off).take cap).length = cap * 1 := by rw [List.length_take, List.length_drop]; omega
    obtain ⟨v', W', hr, ho, hgr⟩ := run_append_arg_grows (P := Try.prog) W 64 ty 38 inf zv 1 24 ht hi hz hsize hby hzs elem_is.pos ⟨g, off, none⟩ cap cap ((cs.drop off).take cap) hol (fun q v hv => by
      rw [Addr.add_mid]
      rw [List.getElem?_take] at hv
      split at hv
      · rw [List.getElem?_drop] at hv
        exact h.at i ei _ hv
      · cases hv) ⟨b, 0, none⟩ 1 1 [u] rfl hcell (by omega) (by unfold maxLen; omega) (by
      have := Nat.mul_le_mul hb hroom
      omega)
    obtain ⟨hlen, ⟨_, h0⟩ | ⟨g', cap', cur, rfl, hB, hg', hn', hm', hs', ht'⟩⟩ := ho
    · omega
    · have hg2 : W'.heap[g']? = some (.cells cur.toList.toArray 38 (0, 0)) := by rw [Array.toArray_toList]; exact hg'
      rw [Nat.mul_one] at ht' hs' hol
      have hlt : ∀ k, k < cap + 1 → cur.toList[k]? = ((cs.drop off).take cap ++ [u])[k]? := fun k hk => by
        rw [← ht', List.getElem?_take_of_lt hk]
      refine ⟨g', 0, cap', cur.toList, W', hr, ⟨h.swap i ei _ ⟨Nat.le_trans h.old.size hB, hg2⟩ (fun c hc => .inr (by obtain rfl : g' = c := Option.some.inj hc; exact hB)) rfl (fun k hk _ => hgr.block k hk (by simp)) hgr.os hgr.tape hgr.output hgr.size, ⟨?_, hn', hm'⟩, fun k hk => ?_, ?_, ⟨hgr.os, hgr.tape, hgr.output, hgr.size, fun k hk _ => hgr.block k hk (by simp)⟩, ?_⟩⟩
      · rw [Array.length_toList, hs']; omega
      · rw [Nat.zero_add, hlt k (by omega), List.getElem?_append_left (by omega), List.getElem?_take_of_lt hk, List.getElem?_drop]
      · rw [Nat.zero_add, hlt cap (by omega), List.getElem?_append_right (by omega), hol, Nat.sub_self]; rfl
      · exact .inr hB
theorem wpList_append_que {ops : Array Oper} {rest : List Oper} {a : Act} {w W : World} {Q : Exit → Act → World → Prop} {d : Option Tmp} {ty : TypeId} {pos : String} {aft : Array Go.Edge} {L : List Th} (h : Hp w L W) (s x : Operand)
    (i : Nat) {g : Nat} {cs : List Value} (ei : L[i]? = some (.ob g 38 cs)) (j : Nat) {b : Nat} {t' : TypeId} {u : Value} (ej : L[j]? = some (.ob b t' [u])) (hu : u.oneCell' = true) {off n cap : Nat} (hcap : off + cap ≤ cs.length) (hn : n ≤ cap) (hm : cap ≤ maxLen) (hb : n + 1 ≤ 1048576)
    (hs : a.eval s = .slice (some ⟨g, off, none⟩) n cap) (hx : a.eval x = .slice (some ⟨b, 0, none⟩) 1 1)
    (hk : ∀ g' off' cap' cs' W', QueOut w W L i g off n cs u g' off' cap' cs' W' → wpList Try.prog ops Q rest (a.put d (.slice (some ⟨g', off', none⟩) (n + 1) cap')) W') :
    wpList Try.prog ops Q ({ dst := d, op := .call { callee := .builtin .append, args := #[s, x], argTypes := #[64, 64] }, type := ty, pos := pos, after := aft, guard := none } :: rest) a W := by
  refine wpList_plain rfl fun K' hK' => ?_
  obtain ⟨g', off', cap', cs', W', hr, ho⟩ := que_append h i ei j ej hu ty hcap hn hm hb
  unfold Oper.wp execOp
  simp only [resolve, invoke, builtin, Sem.run_bind, Sem.run_pure, Result.andThen_ok, List.map_toArray, List.map_cons, List.map_nil, hs, hx, hr]
  exact hK' _ _ (hk g' off' cap' cs' W' ho)
/-- how the search stands in memory -/
structure CyAt (w wr : World) (box : List Value) (g off cap : Nat) (cs : List Value) (q : List (List Int)) (r : List Int) (bm k : Nat) (RR : List Rng) : Prop where
  hp : Hp w [.ob w.heap.size 25 box, .ob g 38 cs, .rd RR] wr
  seen : SeenM wr bm k r
  low : w.heap.size ≤ bm
  apart : bm ≠ w.heap.size ∧ bm ≠ g ∧ bm ∉ RR.map (·.1)
  fit : off + cap ≤ cs.length ∧ q.length ≤ cap ∧ cap ≤ maxLen
  rows : ∀ (i : Nat) (p : List Int), q[i]? = some p → ∃ v, cs[off + i]? = some v ∧ IntRd v p RR
  fresh : ∀ x ∈ RR, w.heap.size ≤ x.1
theorem CyAt.head {w wr : World} {box : List Value} {g off cap : Nat} {cs : List Value} {p : List Int} {q : List (List Int)} {r : List Int} {bm k : Nat} {RR : List Rng} (h : CyAt w wr box g off cap cs (p :: q) r bm k RR) : ∃ v, cs[off]? = some v ∧ IntRd v p RR := h.rows 0 p rfl
theorem CyAt.pop {w wr : World} {box : List Value} {g off cap : Nat} {cs : List Value} {p : List Int} {q : List (List Int)} {r : List Int} {bm k : Nat} {RR : List Rng} (h : CyAt w wr box g off cap cs (p :: q) r bm k RR) : CyAt w wr box g (if cap = 1 then off else off + 1) (cap - 1) cs q r bm k RR := by
  obtain ⟨f1, f2, f3⟩ := h.fit
  rw [List.length_cons] at f2
  refine ⟨h.hp, h.seen, h.low, h.apart, ⟨by split <;> omega, by omega, by omega⟩, fun i p' hp' => ?_, h.fresh⟩
  have hi := (List.getElem?_eq_some_iff.1 hp').1
  rw [if_neg (by omega), Nat.add_assoc, Nat.add_comm 1 i]
  exact h.rows (i + 1) p' hp'
theorem CyAt.calls {w wr W : World} {box : List Value} {g off cap : Nat} {cs : List Value} {q : List (List Int)} {r : List Int} {bm k : Nat} {RR : List Rng} (h : CyAt w wr box g off cap cs q r bm k RR) (hb : Below wr.heap.size wr W) : CyAt w W box g off cap cs q r bm k RR :=
  ⟨h.hp.calls hb, h.seen.below hb, h.low, h.apart, h.fit, h.rows, h.fresh⟩
theorem CyAt.addrd {w wr W : World} {box : List Value} {g off cap : Nat} {cs : List Value} {q : List (List Int)} {r : List Int} {bm k : Nat} {RR R8 : List Rng} (h : CyAt w wr box g off cap cs q r bm k RR) (hb : Below wr.heap.size wr W) (h8 : RdIn W R8) (hn : ∀ x ∈ R8, wr.heap.size ≤ x.1) : CyAt w W box g off cap cs q r bm k (RR ++ R8) := by
  have h1 := h.hp.addrd hb R8 h8 (fun x hx => .inl (hn x hx))
  have h2 : Hp w ([.ob w.heap.size 25 box, .ob g 38 cs] ++ [.rd RR, .rd R8]) W := h1
  refine ⟨Hp.rdmerge h2, h.seen.below hb, h.low, ⟨h.apart.1, h.apart.2.1, fun hm => ?_⟩, h.fit, fun i p hp => ?_, fun x hx => ?_⟩
  · rw [List.map_append] at hm
    rcases List.mem_append.1 hm with hm | hm
    · exact h.apart.2.2 hm
    · obtain ⟨x, hx, e⟩ := List.mem_map.1 hm
      have h3 := hn x hx
      have h4 := h.seen.lt
      omega
  · obtain ⟨v, h3, h4⟩ := h.rows i p hp
    exact ⟨v, h3, SlRd.mono h4 (fun x hx => List.mem_append_left _ hx)⟩
  · rcases List.mem_append.1 hx with hx | hx
    · exact h.fresh x hx
    · exact Nat.le_trans h.hp.old.size (hn x hx)
theorem CyAt.mark {w wr W : World} {box : List Value} {g off cap : Nat} {cs : List Value} {q : List (List Int)} {r : List Int} {bm k : Nat} {RR : List Rng} {x : Int} (h : CyAt w wr box g off cap cs q r bm k RR) (hs : SeenM W bm (k + 1) (r ++ [x])) (hg : wr.grownBy W (some bm)) : CyAt w W box g off cap cs q (r ++ [x]) bm (k + 1) RR := by
  refine ⟨h.hp.others h.low (fun y hy => ?_) hg, hs, h.low, h.apart, h.fit, h.rows, h.fresh⟩
  simp only [List.mem_cons, List.not_mem_nil, or_false] at hy
  rcases hy with rfl | rfl | rfl
  · exact ⟨fun e => h.apart.1 (Option.some.inj e).symm, (fun e => by cases e)⟩
  · exact ⟨fun e => h.apart.2.1 (Option.some.inj e).symm, (fun e => by cases e)⟩
  · exact ⟨(fun e => by cases e), h.apart.2.2⟩
/-- beside it: a new list that is read, and what has it -/
theorem CyAt.beside {w W0 W : World} {box : List Value} {g off cap : Nat} {cs : List Value} {q : List (List Int)} {r : List Int} {bm k : Nat} {RR Ru : List Rng} {b : Nat} {t' : TypeId} {u : Value} (h : CyAt w W0 box g off cap cs q r bm k RR) (hm : Hp W0 [.ob b t' [u], .rd Ru] W) (hu : ∀ x ∈ Ru, W0.heap.size ≤ x.1) :
    Hp w [.ob w.heap.size 25 box, .ob g 38 cs, .ob b t' [u], .rd (RR ++ Ru)] W := by
  have h1 := h.hp.meet hm (fun x hx => by
    simp only [List.mem_cons, List.not_mem_nil, or_false] at hx
    rcases hx with rfl | rfl
    · exact ⟨Nat.le_trans h.hp.old.size (hm.in 0 rfl).1, (hm.in 0 rfl).2⟩
    · exact hm.reads 1 rfl) (fun x hx c hc => by
    simp only [List.mem_cons, List.not_mem_nil, or_false] at hx
    rcases hx with rfl | rfl
    · cases hc
    · obtain ⟨y, hy, rfl⟩ := List.mem_map.1 hc
      exact .inl (hu y hy))
  have h2 : Hp w ([.ob w.heap.size 25 box, .ob g 38 cs, .ob b t' [u]] ++ [.rd RR, .rd Ru]) W := h1.pull [0, 1, 3, 2, 4] rfl (pull_nd h1.nd [0, 1, 3, 2, 4] rfl (by decide))
  exact Hp.rdmerge h2
theorem CyAt.push {w W0 W W' : World} {box : List Value} {g off cap : Nat} {cs : List Value} {q : List (List Int)} {r p : List Int} {bm k : Nat} {RR Ru : List Rng} {b : Nat} {t' : TypeId} {u : Value} {g' off' cap' : Nat} {cs' : List Value} (h : CyAt w W0 box g off cap cs q r bm k RR) (hm : Hp W0 [.ob b t' [u], .rd Ru] W) (hu : ∀ x ∈ Ru, W0.heap.size ≤ x.1) (hp : IntRd u p Ru)
    (ho : QueOut w W [.ob w.heap.size 25 box, .ob g 38 cs, .ob b t' [u], .rd (RR ++ Ru)] 1 g off q.length cs u g' off' cap' cs' W') : CyAt w W' box g' off' cap' cs' (q ++ [p]) r bm k (RR ++ Ru) := by
  have hs := h.seen.below hm.old
  have hlt := h.seen.lt
  refine ⟨ho.hp.pull [0, 1, 3] rfl (pull_nd ho.hp.nd [0, 1, 3] rfl (by decide)), hs.kept ho.grown (fun e => h.apart.2.1 (Option.some.inj e)), h.low, ⟨h.apart.1, ?_, fun hm' => ?_⟩, ⟨ho.fit.1, by rw [List.length_append]; exact ho.fit.2.1, ho.fit.2.2⟩, fun i p' hp' => ?_, fun x hx => ?_⟩
  · rcases ho.blk with rfl | hge
    · exact h.apart.2.1
    · have := hm.old.size; omega
  · rw [List.map_append] at hm'
    rcases List.mem_append.1 hm' with hm' | hm'
    · exact h.apart.2.2 hm'
    · obtain ⟨x, hx, e⟩ := List.mem_map.1 hm'
      have h3 := hu x hx
      omega
  · rcases Nat.lt_or_ge i q.length with hi | hi
    · rw [List.getElem?_append_left hi] at hp'
      obtain ⟨v, h3, h4⟩ := h.rows i p' hp'
      exact ⟨v, by rw [ho.same i hi]; exact h3, SlRd.mono h4 (fun x hx => List.mem_append_left _ hx)⟩
    · have hi2 : i < q.length + 1 := by
        have := (List.getElem?_eq_some_iff.1 hp').1
        rwa [List.length_append, List.length_singleton] at this
      obtain rfl : i = q.length := by omega
      rw [List.getElem?_append_right (Nat.le_refl _), Nat.sub_self] at hp'
      obtain rfl : p = p' := by simpa using hp'
      exact ⟨u, ho.last, SlRd.mono hp (fun x hx => List.mem_append_right _ hx)⟩
  · rcases List.mem_append.1 hx with hx | hx
    · exact h.fresh x hx
    · exact Nat.le_trans h.hp.old.size (hu x hx)
end Go.Proofs.Ytooaldglgkjjgaa
/- the ways of a length, in their order: a search in breadth over whole ways finds what Cycle answers -/
namespace Go.Proofs.Ytooaldglgkjjgaa
set_option maxRecDepth 20000

/-- a way's extensions by k more, in the order of their last ones -/
def levF (f : Int → List Int) : Nat → List Int → List (List Int)
  | 0, way => [way]
  | k + 1, way => (f (way.getLastD 0)).flatMap fun x => if x ∈ way then [] else levF f k (way ++ [x])
def closesB (f : Int → List Int) (way : List Int) : Bool := decide (way.headD 0 ∈ f (way.getLastD 0))
/-- one more -/
def moreF (f : Int → List Int) (way : List Int) : List (List Int) := (f (way.getLastD 0)).flatMap fun x => if x ∈ way then [] else [way ++ [x]]
theorem lev_ne {f : Int → List Int} : ∀ {k : Nat} {way w : List Int}, way ≠ [] → w ∈ levF f k way → w ≠ []
  | 0, way, w, h, hw => by rw [List.mem_singleton.1 hw]; exact h
  | k + 1, way, w, h, hw => by
    obtain ⟨x, _, hx⟩ := List.mem_flatMap.1 hw
    split at hx
    · cases hx
    · exact lev_ne (by simp) hx
theorem first_find {f : Int → List Int} {h : Int → List (List Int)} {p : List Int → Bool} (hf : ∀ x, f x = ((h x).find? p).getD []) (hn : ∀ x, ∀ w ∈ h x, w ≠ []) : ∀ l : List Int, firstR f l = ((l.flatMap h).find? p).getD []
  | [] => rfl
  | x :: l => by
    unfold firstR
    rw [List.flatMap_cons, List.find?_append]
    cases hx : (h x).find? p with
    | none =>
      rw [hf, hx, if_pos (by rfl), first_find hf hn l]; rfl
    | some w =>
      have h1 : w ≠ [] := hn x w (List.mem_of_find?_eq_some hx)
      rw [hf, hx, if_neg (by exact h1)]; rfl
theorem closedF_lev {f : Int → List Int} : ∀ {k : Nat} {way : List Int}, way ≠ [] → closedF f k way = ((levF f k way).find? (closesB f)).getD []
  | 0, way, h => by
    unfold closedF levF
    rw [List.find?_cons, List.find?_nil]
    unfold closesB
    by_cases hc : way.headD 0 ∈ f (way.getLastD 0)
    · rw [if_pos hc, decide_eq_true hc]; rfl
    · rw [if_neg hc, decide_eq_false hc]; rfl
  | k + 1, way, h => by
    unfold closedF levF
    refine first_find (fun x => ?_) (fun x w hw => ?_) _
    · by_cases hx : x ∈ way
      · rw [if_pos hx, if_pos hx]; rfl
      · rw [if_neg hx, if_neg hx]; exact closedF_lev (by simp)
    · split at hw
      · cases hw
      · exact lev_ne (by simp) hw
theorem lev_next {f : Int → List Int} : ∀ (k : Nat) (way : List Int), levF f (k + 1) way = (levF f k way).flatMap (moreF f)
  | 0, way => by
    show _ = [way].flatMap (moreF f)
    rw [List.flatMap_cons, List.flatMap_nil, List.append_nil]; rfl
  | k + 1, way => by
    have e1 : levF f (k + 1 + 1) way = (f (way.getLastD 0)).flatMap fun x => if x ∈ way then [] else levF f (k + 1) (way ++ [x]) := rfl
    have e2 : levF f (k + 1) way = (f (way.getLastD 0)).flatMap fun x => if x ∈ way then [] else levF f k (way ++ [x]) := rfl
    rw [e1, e2, List.flatMap_assoc]
    congr 1
    funext x
    split
    · rfl
    · exact lev_next k _
/-- all ways of at most n + 1, the shorter ones first -/
def levsF (f : Int → List Int) (tx : Int) : Nat → List (List Int)
  | 0 => []
  | n + 1 => levsF f tx n ++ levF f n [tx]
theorem cycGo_from {f : Int → List Int} {tx : Int} : ∀ k n, ((levsF f tx n).find? (closesB f)).getD [] = [] → cycGo f tx n k = ((levsF f tx (n + k)).find? (closesB f)).getD []
  | 0, n, h => by rw [Nat.add_zero, h]; rfl
  | k + 1, n, h => by
    unfold cycGo
    have e : closedF f n [tx] = ((levF f n [tx]).find? (closesB f)).getD [] := closedF_lev (by simp)
    have hno : (levsF f tx n).find? (closesB f) = none := by
      cases hq : (levsF f tx n).find? (closesB f) with
      | none => rfl
      | some w =>
        exfalso
        rw [hq] at h
        have h1 : w = [] := h
        have hm := List.mem_of_find?_eq_some hq
        have hall : ∀ n, ∀ w ∈ levsF f tx n, w ≠ [] := by
          intro n
          induction n with
          | zero => intro w hw; cases hw
          | succ n ih =>
            intro w hw
            rcases List.mem_append.1 hw with hw | hw
            · exact ih w hw
            · exact lev_ne (by simp) hw
        exact hall n w hm h1
    have hs : (levsF f tx (n + 1)).find? (closesB f) = (levF f n [tx]).find? (closesB f) := by
      show (levsF f tx n ++ levF f n [tx]).find? (closesB f) = _
      rw [List.find?_append, hno]; rfl
    by_cases hc : closedF f n [tx] = []
    · rw [if_pos hc, show n + (k + 1) = (n + 1) + k by omega]
      exact cycGo_from k (n + 1) (by rw [hs, ← e]; exact hc)
    · rw [if_neg hc, e]
      have hmono : ∀ k, (levsF f tx (n + 1 + k)).find? (closesB f) = (levF f n [tx]).find? (closesB f) := by
        intro k
        induction k with
        | zero => exact hs
        | succ k ih =>
          show (levsF f tx (n + 1 + k) ++ levF f (n + 1 + k) [tx]).find? (closesB f) = _
          rw [List.find?_append, ih]
          cases hq : (levF f n [tx]).find? (closesB f) with
          | none => rw [e, hq] at hc; exact absurd rfl hc
          | some w => rfl
      rw [show n + (k + 1) = n + 1 + k by omega, hmono k]
theorem cycGo_levs (f : Int → List Int) (tx : Int) (k : Nat) : cycGo f tx 0 k = ((levsF f tx k).find? (closesB f)).getD [] := by
  rw [cycGo_from k 0 rfl, Nat.zero_add]
/-- longer ways find nothing else -/
theorem cycGo_more {f : Int → List Int} {tx : Int} {W : List Int} (hW : ∀ a, f a ≠ [] → a ∈ W) (k : Nat) : cycGo f tx 0 (W.length + k) = cycGo f tx 0 W.length := by
  by_cases h : cycGo f tx 0 W.length = []
  · rw [h]
    rcases Classical.em (cycGo f tx 0 (W.length + k) = []) with h1 | h1
    · exact h1
    · obtain ⟨j, _, _, h2⟩ := cycGo_ne.1 h1
      obtain ⟨s, _, h3⟩ := (closedF_ne (by simp)).1 h2
      exact absurd h ((cycGo_walk hW).2 ⟨s, of_ext (E := fun a b => b ∈ f a) (fun _ _ h => h) (by simp) h3⟩)
  · rw [cycGo_levs] at h ⊢
    rw [cycGo_levs]
    congr 1
    induction k with
    | zero => rfl
    | succ k ih =>
      show (levsF f tx (W.length + k) ++ levF f (W.length + k) [tx]).find? (closesB f) = _
      rw [List.find?_append, ih]
      cases hq : (levsF f tx W.length).find? (closesB f) with
      | none => rw [hq] at h; exact absurd rfl h
      | some w => rfl
end Go.Proofs.Ytooaldglgkjjgaa
/- a search in breadth that goes to each one once finds what Cycle answers -/
namespace Go.Proofs.Ytooaldglgkjjgaa
set_option maxRecDepth 20000

/-- those whom the last one of a way waits for: none if the asked one is among them, else what waits to be looked at, and who has been reached -/
def bfsIn (tx : Int) (p : List Int) : List Int → List (List Int) → List Int → Option (List (List Int) × List Int)
  | [], q, r => some (q, r)
  | x :: l, q, r => if x = tx then none else if x ∈ r then bfsIn tx p l q r else bfsIn tx p l (q ++ [p ++ [x]]) (r ++ [x])
def bfs (f : Int → List Int) (tx : Int) : Nat → List (List Int) → List Int → List Int
  | 0, _, _ => []
  | _ + 1, [], _ => []
  | n + 1, p :: q, r => match bfsIn tx p (f (p.getLastD 0)) q r with
    | none => p
    | some (q', r') => bfs f tx n q' r'
def newsL (r l : List Int) : List Int := l.filter fun x => !decide (x ∈ r)
theorem mem_news {r l : List Int} {x : Int} : x ∈ newsL r l ↔ x ∈ l ∧ x ∉ r := by
  unfold newsL; rw [List.mem_filter]; simp
theorem bfsIn_none {tx : Int} {p : List Int} : ∀ {l : List Int} {q : List (List Int)} {r : List Int}, tx ∈ l → bfsIn tx p l q r = none
  | [], _, _, h => by cases h
  | x :: l, q, r, h => by
    unfold bfsIn
    by_cases hx : x = tx
    · rw [if_pos hx]
    · have hl : tx ∈ l := by
        rcases List.mem_cons.1 h with e | e
        · exact absurd e.symm hx
        · exact e
      rw [if_neg hx]
      split
      · exact bfsIn_none hl
      · exact bfsIn_none hl
theorem news_cons {r l : List Int} {x : Int} (hx : x ∉ l) : newsL (r ++ [x]) l = newsL r l := by
  unfold newsL
  refine List.filter_congr fun y hy => ?_
  have : y ≠ x := fun e => hx (e ▸ hy)
  simp [this]
theorem bfsIn_some {tx : Int} {p : List Int} : ∀ {l : List Int} {q : List (List Int)} {r : List Int}, tx ∉ l → l.Nodup → bfsIn tx p l q r = some (q ++ (newsL r l).map (fun x => p ++ [x]), r ++ newsL r l)
  | [], q, r, _, _ => by simp [bfsIn, newsL]
  | x :: l, q, r, h, hn => by
    obtain ⟨hx, hn'⟩ := List.nodup_cons.1 hn
    unfold bfsIn
    have h1 : x ≠ tx := fun e => h (by rw [e]; exact List.mem_cons_self ..)
    have h2 : tx ∉ l := fun e => h (List.mem_cons_of_mem _ e)
    rw [if_neg h1]
    by_cases hr : x ∈ r
    · rw [if_pos hr, bfsIn_some h2 hn']
      have e : newsL r (x :: l) = newsL r l := by unfold newsL; rw [List.filter_cons, if_neg (by simp [hr])]
      rw [e]
    · rw [if_neg hr, bfsIn_some h2 hn', news_cons hx]
      have e : newsL r (x :: l) = x :: newsL r l := by unfold newsL; rw [List.filter_cons, if_pos (by simp [hr])]
      rw [e, List.map_cons, List.append_assoc, List.append_assoc]; rfl

/-- of the ways that end alike the first one -/
def ddl : List Int → List (List Int) → List (List Int)
  | _, [] => []
  | D, w :: l => if w.getLastD 0 ∈ D then ddl D l else w :: ddl (w.getLastD 0 :: D) l
theorem ddl_congr : ∀ {l : List (List Int)} {D E : List Int}, (∀ x, x ∈ D ↔ x ∈ E) → ddl D l = ddl E l
  | [], _, _, _ => rfl
  | w :: l, D, E, h => by
    unfold ddl
    by_cases hw : w.getLastD 0 ∈ D
    · rw [if_pos hw, if_pos ((h _).1 hw), ddl_congr h]
    · rw [if_neg hw, if_neg (fun e => hw ((h _).2 e)), ddl_congr (D := w.getLastD 0 :: D) (E := w.getLastD 0 :: E) fun x => by rw [List.mem_cons, List.mem_cons, h]]
theorem ddl_pos {D w : List Int} {l : List (List Int)} (h : w.getLastD 0 ∈ D) : ddl D (w :: l) = ddl D l := by show (if _ then _ else _) = _; rw [if_pos h]
theorem ddl_neg {D w : List Int} {l : List (List Int)} (h : w.getLastD 0 ∉ D) : ddl D (w :: l) = w :: ddl (w.getLastD 0 :: D) l := by show (if _ then _ else _) = _; rw [if_neg h]
theorem ddl_append : ∀ {l m : List (List Int)} {D E : List Int}, (∀ x, x ∈ E ↔ x ∈ D ∨ ∃ w ∈ l, w.getLastD 0 = x) → ddl D (l ++ m) = ddl D l ++ ddl E m
  | [], m, D, E, h => by
    rw [List.nil_append]
    show ddl D m = [] ++ ddl E m
    rw [List.nil_append]
    exact ddl_congr fun x => by rw [h]; simp
  | w :: l, m, D, E, h => by
    rw [List.cons_append]
    by_cases hw : w.getLastD 0 ∈ D
    · rw [ddl_pos hw, ddl_pos hw]
      refine ddl_append fun x => ?_
      rw [h]
      constructor
      · rintro (k | ⟨v, hv, rfl⟩)
        · exact .inl k
        · rcases List.mem_cons.1 hv with rfl | hv
          · exact .inl hw
          · exact .inr ⟨v, hv, rfl⟩
      · rintro (k | ⟨v, hv, rfl⟩)
        · exact .inl k
        · exact .inr ⟨v, List.mem_cons_of_mem _ hv, rfl⟩
    · rw [ddl_neg hw, ddl_neg hw, List.cons_append]
      congr 1
      refine ddl_append fun x => ?_
      rw [h, List.mem_cons]
      constructor
      · rintro (k | ⟨v, hv, rfl⟩)
        · exact .inl (.inr k)
        · rcases List.mem_cons.1 hv with rfl | hv
          · exact .inl (.inl rfl)
          · exact .inr ⟨v, hv, rfl⟩
      · rintro ((rfl | k) | ⟨v, hv, rfl⟩)
        · exact .inr ⟨w, List.mem_cons_self .., rfl⟩
        · exact .inl k
        · exact .inr ⟨v, List.mem_cons_of_mem _ hv, rfl⟩
theorem ddl_none : ∀ {m : List (List Int)} {E : List Int}, (∀ w ∈ m, w.getLastD 0 ∈ E) → ddl E m = []
  | [], _, _ => rfl
  | w :: m, E, h => by
    unfold ddl
    rw [if_pos (h w (List.mem_cons_self ..)), ddl_none fun v hv => h v (List.mem_cons_of_mem _ hv)]
theorem last_snoc (w : List Int) (x : Int) : (w ++ [x]).getLastD 0 = x := getLastD_snoc w x 0
theorem ddl_more {w : List Int} : ∀ {l : List Int} {E : List Int}, l.Nodup → (∀ x ∈ l, x ∈ w → x ∈ E) → ddl E (l.flatMap fun x => if x ∈ w then [] else [w ++ [x]]) = (newsL E l).map fun x => w ++ [x]
  | [], _, _, _ => rfl
  | x :: l, E, hn, h => by
    obtain ⟨hx, hn'⟩ := List.nodup_cons.1 hn
    have hl : ∀ y ∈ l, y ∈ w → y ∈ E := fun y hy => h y (List.mem_cons_of_mem _ hy)
    rw [List.flatMap_cons]
    by_cases he : x ∈ E
    · have e : newsL E (x :: l) = newsL E l := by unfold newsL; rw [List.filter_cons, if_neg (by simp [he])]
      rw [e, ← ddl_more hn' hl]
      by_cases hw : x ∈ w
      · rw [if_pos hw, List.nil_append]
      · rw [if_neg hw, List.singleton_append, ddl, last_snoc, if_pos he]
    · have e : newsL E (x :: l) = x :: newsL E l := by unfold newsL; rw [List.filter_cons, if_pos (by simp [he])]
      have hw : x ∉ w := fun k => he (h x (List.mem_cons_self ..) k)
      rw [e, if_neg hw, List.singleton_append, ddl, last_snoc, if_neg he, List.map_cons, ddl_more hn' fun y hy k => List.mem_cons_of_mem _ (hl y hy k)]
      congr 2
      unfold newsL
      refine List.filter_congr fun y hy => ?_
      have : y ≠ x := fun e => hx (e ▸ hy)
      simp [this]
/-- all that comes of ways, the nearer ones first -/
def deepF (f : Int → List Int) : Nat → List (List Int) → List (List Int)
  | 0, _ => []
  | n + 1, q => q ++ deepF f n (q.flatMap (moreF f))
theorem deep_levs (f : Int → List Int) (tx : Int) : ∀ n k, levsF f tx k ++ deepF f n (levF f k [tx]) = levsF f tx (k + n)
  | 0, k => by show _ ++ [] = _; rw [List.append_nil]; rfl
  | n + 1, k => by
    show levsF f tx k ++ (levF f k [tx] ++ deepF f n ((levF f k [tx]).flatMap (moreF f))) = _
    rw [← lev_next, ← List.append_assoc, show k + (n + 1) = (k + 1) + n by omega, ← deep_levs f tx n (k + 1)]
    rfl
structure Sim (f : Int → List Int) (tx : Int) (V D : List Int) (k : Nat) (A B : List (List Int)) (r : List Int) : Prop where
  reached : ∀ x, x ≠ tx → (x ∈ r ↔ x ∈ D ∨ ∃ w ∈ A ++ B, w.getLastD 0 = x)
  ways : ∀ w ∈ A ++ B, w.headD 0 = tx ∧ w.Nodup ∧ (∀ x ∈ w, x ∈ V) ∧ (∀ x ∈ w, x ∈ D ∨ x = w.getLastD 0)
  lenA : ∀ w ∈ A, w.length = k + 1
  lenB : ∀ w ∈ B, w.length = k + 2
  out : ∀ u ∈ D, tx ∉ f u ∧ ∀ x ∈ f u, x ∈ D ∨ ∃ w ∈ A ++ B, w.getLastD 0 = x
theorem mem_more {f : Int → List Int} {w v : List Int} (h : v ∈ moreF f w) : ∃ x, x ∈ f (w.getLastD 0) ∧ x ∉ w ∧ v = w ++ [x] := by
  unfold moreF at h
  obtain ⟨x, hx, hv⟩ := List.mem_flatMap.1 h
  split at hv
  · cases hv
  · rename_i hw; exact ⟨x, hx, hw, by simpa using hv⟩
theorem more_mem {f : Int → List Int} {w : List Int} {x : Int} (h : x ∈ f (w.getLastD 0)) (hw : x ∉ w) : w ++ [x] ∈ moreF f w := by
  unfold moreF
  exact List.mem_flatMap.2 ⟨x, h, by rw [if_neg hw]; exact List.mem_singleton.2 rfl⟩
def cntV (V r : List Int) : Nat := (V.filter fun x => !decide (x ∈ r)).length
theorem cnt_news {V r l : List Int} (hV : V.Nodup) (hl : l.Nodup) (h : ∀ x ∈ l, x ∈ V) : cntV V (r ++ newsL r l) + (newsL r l).length ≤ cntV V r := by
  have h1 : ((V.filter fun x => !decide (x ∈ r ++ newsL r l)) ++ newsL r l).Nodup := by
    refine List.nodup_append.2 ⟨hV.filter _, hl.filter _, fun x hx y hy e => ?_⟩
    subst e
    have := (List.mem_filter.1 hx).2
    simp [hy] at this
  have := nodup_len (m := V.filter fun x => !decide (x ∈ r)) h1 fun x hx => by
    rcases List.mem_append.1 hx with hx | hx
    · obtain ⟨a, b⟩ := List.mem_filter.1 hx
      refine List.mem_filter.2 ⟨a, ?_⟩
      have : x ∉ r ++ newsL r l := by simpa using b
      have h2 : x ∉ r := fun e => this (List.mem_append.2 (.inl e))
      simp [h2]
    · obtain ⟨a, b⟩ := mem_news.1 hx
      exact List.mem_filter.2 ⟨h x a, by simp [b]⟩
  rw [List.length_append] at this
  exact this
theorem bfs_nil (f : Int → List Int) (tx : Int) (r : List Int) : ∀ m, bfs f tx m [] r = []
  | 0 => rfl
  | _ + 1 => rfl
theorem sim_step {f : Int → List Int} {tx : Int} {V D r : List Int} {k : Nat} {w : List Int} {A B : List (List Int)} (hfV : ∀ a, ∀ x ∈ f a, x ∈ V) (h : Sim f tx V D k (w :: A) B r) (hu : tx ∉ f (w.getLastD 0)) (D' r' : List Int)
    (hD : ∀ x, x ∈ D' ↔ x ∈ D ∨ x = w.getLastD 0) (hr : ∀ x, x ≠ tx → (x ∈ r' ↔ x ∈ r ∨ x ∈ f (w.getLastD 0))) : Sim f tx V D' k A (B ++ moreF f w) r' := by
  have hw0 := h.ways w (by simp)
  have hlw := h.lenA w (List.mem_cons_self ..)
  have hall : ∀ x, (x ∈ D ∨ ∃ v ∈ (w :: A) ++ B, v.getLastD 0 = x) → (x ∈ D' ∨ ∃ v ∈ A ++ (B ++ moreF f w), v.getLastD 0 = x) := by
    rintro x (k | ⟨v, hv, rfl⟩)
    · exact .inl ((hD x).2 (.inl k))
    · rcases List.mem_append.1 hv with hv | hv
      · rcases List.mem_cons.1 hv with rfl | hv
        · exact .inl ((hD _).2 (.inr rfl))
        · exact .inr ⟨v, List.mem_append.2 (.inl hv), rfl⟩
      · exact .inr ⟨v, List.mem_append.2 (.inr (List.mem_append.2 (.inl hv))), rfl⟩
  have hnext : ∀ x ∈ f (w.getLastD 0), x ∈ D' ∨ ∃ v ∈ A ++ (B ++ moreF f w), v.getLastD 0 = x := by
    intro x hx
    by_cases hxw : x ∈ w
    · exact .inl ((hD x).2 (hw0.2.2.2 x hxw))
    · exact .inr ⟨_, List.mem_append.2 (.inr (List.mem_append.2 (.inr (more_mem hx hxw)))), last_snoc w x⟩
  refine ⟨fun x hx => ?_, fun v hv => ?_, fun v hv => h.lenA v (List.mem_cons_of_mem _ hv), fun v hv => ?_, fun u hu' => ?_⟩
  · rw [hr x hx, h.reached x hx]
    constructor
    · rintro (k | k)
      · exact hall x k
      · exact hnext x k
    · rintro (k | ⟨v, hv, rfl⟩)
      · rcases (hD x).1 k with k | k
        · exact .inl (.inl k)
        · exact .inl (.inr ⟨w, by simp, k.symm⟩)
      · rcases List.mem_append.1 hv with hv | hv
        · exact .inl (.inr ⟨v, by simp [hv], rfl⟩)
        · rcases List.mem_append.1 hv with hv | hv
          · exact .inl (.inr ⟨v, by simp [hv], rfl⟩)
          · obtain ⟨x, hx', _, rfl⟩ := mem_more hv
            rw [last_snoc]; exact .inr hx'
  · rcases List.mem_append.1 hv with hv' | hv'
    · obtain ⟨a, b, c, d⟩ := h.ways v (by simp [hv'])
      exact ⟨a, b, c, fun x hx => (d x hx).imp (fun e => (hD x).2 (.inl e)) id⟩
    · rcases List.mem_append.1 hv' with hv' | hv'
      · obtain ⟨a, b, c, d⟩ := h.ways v (by simp [hv'])
        exact ⟨a, b, c, fun x hx => (d x hx).imp (fun e => (hD x).2 (.inl e)) id⟩
      · obtain ⟨x, hx, hxw, rfl⟩ := mem_more hv'
        refine ⟨?_, ?_, fun y hy => ?_, fun y hy => ?_⟩
        · rw [headD_snoc (fun e => by rw [e] at hlw; cases hlw)]; exact hw0.1
        · refine List.nodup_append.2 ⟨hw0.2.1, by simp, fun y hy z hz e => ?_⟩
          obtain rfl : z = x := by simpa using hz
          exact hxw (e ▸ hy)
        · rcases List.mem_append.1 hy with hy | hy
          · exact hw0.2.2.1 y hy
          · obtain rfl : y = x := by simpa using hy
            exact hfV _ _ hx
        · rw [last_snoc]
          rcases List.mem_append.1 hy with hy | hy
          · exact .inl ((hD y).2 (hw0.2.2.2 y hy))
          · exact .inr (by simpa using hy)
  · rcases List.mem_append.1 hv with hv | hv
    · exact h.lenB v hv
    · obtain ⟨x, _, _, rfl⟩ := mem_more hv
      rw [List.length_append, hlw]; rfl
  · rcases (hD u).1 hu' with hu' | rfl
    · exact ⟨(h.out u hu').1, fun x hx => hall x ((h.out u hu').2 x hx)⟩
    · exact ⟨hu, hnext⟩
theorem bfs_sim {f : Int → List Int} {tx : Int} {V : List Int} (hV : V.Nodup) (hf : ∀ a, (f a).Nodup) (hfV : ∀ a, ∀ x ∈ f a, x ∈ V) (n : Nat) (A : List (List Int)) : ∀ (B : List (List Int)) (D r : List Int) (k m : Nat),
    Sim f tx V D k A B r → V.length ≤ n + k → cntV V r + (ddl D (A ++ B)).length ≤ m → bfs f tx m (ddl D (A ++ B)) r = ((A ++ deepF f n (B ++ A.flatMap (moreF f))).find? (closesB f)).getD [] := by
  match A with
  | [] =>
    intro B D r k m h hn hm
    rw [List.nil_append, List.nil_append, List.flatMap_nil, List.append_nil]
    match n with
    | 0 =>
      have hB : B = [] := by
        cases B with
        | nil => rfl
        | cons w B =>
          exfalso
          have h1 := h.lenB w (List.mem_cons_self ..)
          have h2 := h.ways w (by simp)
          have := nodup_len h2.2.1 h2.2.2.1
          omega
      subst hB
      exact bfs_nil f tx r m
    | n + 1 =>
      have := bfs_sim hV hf hfV n B [] D r (k + 1) m ⟨fun x hx => by rw [h.reached x hx, List.append_nil]; rfl, fun w hw => h.ways w (by simpa using hw), h.lenB, (fun w hw => by cases hw), fun u hu => ⟨(h.out u hu).1, fun x hx => by rw [List.append_nil]; exact (h.out u hu).2 x hx⟩⟩ (by omega) (by rw [List.append_nil]; exact hm)
      rw [List.append_nil, List.nil_append] at this
      exact this
  | w :: A =>
    intro B D r k m h hn hm
    have efut : (w :: A) ++ deepF f n (B ++ (w :: A).flatMap (moreF f)) = w :: (A ++ deepF f n ((B ++ moreF f w) ++ A.flatMap (moreF f))) := by
      rw [List.flatMap_cons, List.cons_append, List.append_assoc]
    have hhead := (h.ways w (by simp)).1
    have hin := (h.ways w (by simp)).2.2.2
    rw [efut]
    by_cases hu : w.getLastD 0 ∈ D
    · have hout := h.out _ hu
      have hcl : closesB f w = false := by unfold closesB; rw [hhead]; exact decide_eq_false hout.1
      have hrd : ∀ x ∈ f (w.getLastD 0), x ∈ D ∨ ∃ v ∈ A ++ B, v.getLastD 0 = x := fun x hx => by
        rcases hout.2 x hx with k | ⟨v, hv, rfl⟩
        · exact .inl k
        · rcases List.mem_append.1 hv with hv | hv
          · rcases List.mem_cons.1 hv with rfl | hv
            · exact .inl hu
            · exact .inr ⟨v, List.mem_append.2 (.inl hv), rfl⟩
          · exact .inr ⟨v, List.mem_append.2 (.inr hv), rfl⟩
      have hs := sim_step hfV h hout.1 D r (fun x => ⟨.inl, fun k => k.elim id fun e => e ▸ hu⟩) fun x hx => ⟨.inl, fun k => k.elim id fun e => (h.reached x hx).2 (hout.2 x e)⟩
      have ed : ddl D (A ++ (B ++ moreF f w)) = ddl D (A ++ B) := by
        obtain ⟨E, hE⟩ : ∃ E : List Int, ∀ x, x ∈ E ↔ x ∈ D ∨ ∃ v ∈ A ++ B, v.getLastD 0 = x := ⟨D ++ (A ++ B).map (fun v => v.getLastD 0), fun x => by rw [List.mem_append, List.mem_map]⟩
        rw [← List.append_assoc, ddl_append hE, ddl_none (m := moreF f w), List.append_nil]
        intro v hv
        obtain ⟨x, hx, _, rfl⟩ := mem_more hv
        rw [last_snoc, hE]; exact hrd x hx
      have e1 : ddl D (w :: A ++ B) = ddl D (A ++ B) := by rw [List.cons_append, ddl, if_pos hu]
      rw [e1] at hm ⊢
      rw [List.find?_cons, hcl, ← ed]
      exact bfs_sim hV hf hfV n A (B ++ moreF f w) D r k m hs hn (by rw [ed]; exact hm)
    · have e1 : ddl D (w :: A ++ B) = w :: ddl (w.getLastD 0 :: D) (A ++ B) := by rw [List.cons_append, ddl, if_neg hu]
      rw [e1] at hm ⊢
      rw [List.length_cons] at hm
      obtain ⟨m, rfl⟩ : ∃ j, m = j + 1 := ⟨m - 1, by omega⟩
      by_cases hc : tx ∈ f (w.getLastD 0)
      · have hcl : closesB f w = true := by unfold closesB; rw [hhead]; exact decide_eq_true hc
        rw [List.find?_cons, hcl]
        show (match bfsIn tx w (f (w.getLastD 0)) _ r with | none => w | some (q', r') => bfs f tx m q' r') = w
        rw [bfsIn_none hc]
      · have hcl : closesB f w = false := by unfold closesB; rw [hhead]; exact decide_eq_false hc
        rw [List.find?_cons, hcl]
        show (match bfsIn tx w (f (w.getLastD 0)) _ r with | none => w | some (q', r') => bfs f tx m q' r') = _
        rw [bfsIn_some hc (hf _)]
        show bfs f tx m _ _ = _
        have hs := sim_step hfV h hc (w.getLastD 0 :: D) (r ++ newsL r (f (w.getLastD 0))) (fun x => by rw [List.mem_cons]; exact or_comm) fun x hx => by
          rw [List.mem_append, mem_news]
          constructor
          · rintro (e | e)
            · exact .inl e
            · exact .inr e.1
          · rintro (e | e)
            · exact .inl e
            · by_cases hr : x ∈ r
              · exact .inl hr
              · exact .inr ⟨e, hr⟩
        obtain ⟨E, hE⟩ : ∃ E : List Int, ∀ x, x ∈ E ↔ x ∈ w.getLastD 0 :: D ∨ ∃ v ∈ A ++ B, v.getLastD 0 = x := ⟨(w.getLastD 0 :: D) ++ (A ++ B).map (fun v => v.getLastD 0), fun x => by rw [List.mem_append, List.mem_map]⟩
        have hEr : newsL E (f (w.getLastD 0)) = newsL r (f (w.getLastD 0)) := by
          unfold newsL
          refine List.filter_congr fun x hx => ?_
          have hne : x ≠ tx := fun e => hc (e ▸ hx)
          have : x ∈ E ↔ x ∈ r := by
            rw [hE, h.reached x hne, List.mem_cons]
            constructor
            · rintro ((rfl | e) | ⟨v, hv, rfl⟩)
              · exact .inr ⟨w, by simp, rfl⟩
              · exact .inl e
              · exact .inr ⟨v, by rw [List.cons_append]; exact List.mem_cons_of_mem _ hv, rfl⟩
            · rintro (e | ⟨v, hv, rfl⟩)
              · exact .inl (.inr e)
              · rw [List.cons_append] at hv
                rcases List.mem_cons.1 hv with rfl | hv
                · exact .inl (.inl rfl)
                · exact .inr ⟨v, hv, rfl⟩
          rw [show decide (x ∈ E) = decide (x ∈ r) from by simp only [this]]
        have ed : ddl (w.getLastD 0 :: D) (A ++ (B ++ moreF f w)) = ddl (w.getLastD 0 :: D) (A ++ B) ++ (newsL r (f (w.getLastD 0))).map (fun x => w ++ [x]) := by
          rw [← List.append_assoc, ddl_append hE]
          congr 1
          unfold moreF
          rw [ddl_more (hf _) fun x hx hxw => ?_, hEr]
          refine (hE x).2 (.inl (List.mem_cons.2 ?_))
          exact (hin x hxw).symm
        have hcnt := cnt_news (r := r) hV (hf (w.getLastD 0)) (hfV _)
        rw [← ed]
        exact bfs_sim hV hf hfV n A (B ++ moreF f w) _ _ k m hs hn (by rw [ed, List.length_append, List.length_map]; omega)
termination_by (n, A.length)
/-- the search finds what Cycle answers -/
theorem bfs_cyc {f : Int → List Int} {tx : Int} {V W : List Int} (hV : V.Nodup) (ht : tx ∈ V) (hf : ∀ a, (f a).Nodup) (hfV : ∀ a, ∀ x ∈ f a, x ∈ V) (hW : ∀ a, f a ≠ [] → a ∈ W) (m : Nat) (hm : V.length + 1 ≤ m) :
    bfs f tx m [[tx]] [] = cycGo f tx 0 W.length := by
  rw [← cycGo_more hW (V.length + 1), cycGo_levs]
  have hlen := deep_levs f tx (W.length + (V.length + 1)) 0
  rw [Nat.zero_add] at hlen
  have hpos : 0 < V.length := List.length_pos_of_mem ht
  obtain ⟨n, hn⟩ : ∃ n, W.length + (V.length + 1) = n + 1 := ⟨W.length + V.length, by omega⟩
  rw [← hlen, hn]
  show _ = (([] ++ ([[tx]] ++ deepF f n ([[tx]].flatMap (moreF f)))).find? (closesB f)).getD []
  have hs : Sim f tx V [] 0 [[tx]] [] [] := by
    refine ⟨fun x hx => ?_, fun w hw => ?_, fun w hw => ?_, (fun w hw => by cases hw), (fun u hu => by cases hu)⟩
    · constructor
      · intro e; cases e
      · rintro (e | ⟨w, hw, rfl⟩)
        · cases e
        · obtain rfl : w = [tx] := by simpa using hw
          exact absurd rfl hx
    · obtain rfl : w = [tx] := by simpa using hw
      refine ⟨rfl, by simp, fun x hx => ?_, fun x hx => .inr ?_⟩
      · obtain rfl : x = tx := by simpa using hx
        exact ht
      · obtain rfl : x = tx := by simpa using hx
        rfl
    · obtain rfl : w = [tx] := by simpa using hw
      rfl
  have := bfs_sim hV hf hfV n [[tx]] [] [] [] 0 m hs (by omega) (by
    have : cntV V [] ≤ V.length := List.length_filter_le ..
    show cntV V [] + 1 ≤ m
    omega)
  rw [List.nil_append]
  exact this
/-- where the search stands -/
structure BfsAt (f : Int → List Int) (tx : Int) (V : List Int) (K m : Nat) (q : List (List Int)) (r res : List Int) : Prop where
  cnt : cntV V r + q.length ≤ m
  ways : ∀ p ∈ q, 0 < p.length ∧ p.length + m ≤ K
  res : bfs f tx m q r = res
theorem BfsAt.done {f : Int → List Int} {tx : Int} {V : List Int} {K m : Nat} {r res : List Int} (h : BfsAt f tx V K m [] r res) : res = [] := by rw [← h.res, bfs_nil]
theorem BfsAt.pos {f : Int → List Int} {tx : Int} {V : List Int} {K m : Nat} {p : List Int} {q : List (List Int)} {r res : List Int} (h : BfsAt f tx V K m (p :: q) r res) : 0 < m := by
  have := h.cnt; rw [List.length_cons] at this; omega
theorem BfsAt.closed {f : Int → List Int} {tx : Int} {V : List Int} {K m : Nat} {p : List Int} {q : List (List Int)} {r res : List Int} (h : BfsAt f tx V K m (p :: q) r res) (hx : bfsIn tx p (f (p.getLastD 0)) q r = none) : res = p := by
  have := h.pos
  obtain ⟨j, rfl⟩ : ∃ j, m = j + 1 := ⟨m - 1, by omega⟩
  rw [← h.res]
  show (match bfsIn tx p (f (p.getLastD 0)) q r with | none => p | some (q', r') => bfs f tx j q' r') = p
  rw [hx]
theorem BfsAt.next {f : Int → List Int} {tx : Int} {V : List Int} {K m : Nat} {p : List Int} {q q' : List (List Int)} {r r' res : List Int} (hV : V.Nodup) (hf : ∀ a, (f a).Nodup) (hfV : ∀ a, ∀ x ∈ f a, x ∈ V) (h : BfsAt f tx V K (m + 1) (p :: q) r res) (hx : bfsIn tx p (f (p.getLastD 0)) q r = some (q', r')) : BfsAt f tx V K m q' r' res := by
  have hc : tx ∉ f (p.getLastD 0) := fun e => by rw [bfsIn_none e] at hx; cases hx
  have hx' := hx
  rw [bfsIn_some hc (hf _)] at hx'
  obtain ⟨rfl, rfl⟩ : q ++ (newsL r (f (p.getLastD 0))).map (fun x => p ++ [x]) = q' ∧ r ++ newsL r (f (p.getLastD 0)) = r' := by
    have := Option.some.inj hx'; exact ⟨congrArg Prod.fst this, congrArg Prod.snd this⟩
  have hcnt := cnt_news (r := r) hV (hf (p.getLastD 0)) (hfV _)
  refine ⟨?_, fun v hv => ?_, ?_⟩
  · have := h.cnt; rw [List.length_cons] at this; rw [List.length_append, List.length_map]; omega
  · rcases List.mem_append.1 hv with hv | hv
    · have := h.ways v (List.mem_cons_of_mem _ hv); exact ⟨this.1, by omega⟩
    · obtain ⟨x, _, rfl⟩ := List.mem_map.1 hv
      have := h.ways p (List.mem_cons_self ..)
      rw [List.length_append, List.length_singleton]; exact ⟨by omega, by omega⟩
  · rw [← h.res]
    show _ = (match bfsIn tx p (f (p.getLastD 0)) q r with | none => p | some (q', r') => bfs f tx m q' r')
    rw [hx]
theorem bfs_start {f : Int → List Int} {tx : Int} {V W : List Int} (hV : V.Nodup) (ht : tx ∈ V) (hf : ∀ a, (f a).Nodup) (hfV : ∀ a, ∀ x ∈ f a, x ∈ V) (hW : ∀ a, f a ≠ [] → a ∈ W) : BfsAt f tx V (V.length + 2) (V.length + 1) [[tx]] [] (cycGo f tx 0 W.length) :=
  ⟨by have : cntV V [] ≤ V.length := List.length_filter_le ..
      show cntV V [] + 1 ≤ _
      omega, fun p hp => by
      obtain rfl : p = [tx] := by simpa using hp
      show 0 < 1 ∧ 1 + _ ≤ _
      omega, bfs_cyc hV ht hf hfV hW _ (Nat.le_refl _)⟩
end Go.Proofs.Ytooaldglgkjjgaa
/- the program's Cycle (waits) -/
namespace Go.Proofs.Ytooaldglgkjjgaa
open Go.RowKit
set_option maxRecDepth 20000
set_option linter.unusedSimpArgs false
set_option linter.unusedVariables false

theorem cyc_invalid {t : Tb} {tx : Int} (h : tbOkB t = false) : cycR t tx = [] := by
  unfold cycR waitersR
  rw [if_neg (by rw [h]; decide)]; rfl
theorem asc_nodup {l : List Int} (h : Asc l) : l.Nodup := h.imp fun {a b} h => by omega
theorem cyc_start {t : Tb} (h : TbOk t) (tx : Int) : ∃ V : List Int, V.Nodup ∧ (∀ a, ∀ x ∈ forR t a, x ∈ V) ∧ V.length ≤ 2000 ∧ BfsAt (forR t) tx V (V.length + 2) (V.length + 1) [[tx]] [] (cycR t tx) := by
  have hV : (wtR (waitersL (t.held ++ t.wait)) tx).Nodup := asc_nodup (asc_with (asc_waitersFold _ asc_nil))
  have hin : ∀ a, ∀ x ∈ forR t a, x ∈ wtR (waitersL (t.held ++ t.wait)) tx := fun a x hx => by
    refine mem_with.2 (.inr ?_)
    unfold waitersL
    rw [mem_waitersFold]
    right
    obtain ⟨p, g, q, hw, _, ⟨y, hy, _, he⟩ | ⟨y, hy, _, he⟩⟩ := (mem_for h).1 hx
    · exact ⟨y, List.mem_append_left _ hy, he⟩
    · exact ⟨y, List.mem_append_right _ (by rw [hw]; exact List.mem_append_left _ hy), he⟩
  have hW : ∀ a, forR t a ≠ [] → a ∈ waitersR t := fun a ha => by
    obtain ⟨x, hx⟩ := List.exists_mem_of_ne_nil _ ha
    obtain ⟨p, g, q, hw, hg, _⟩ := (mem_for h).1 hx
    exact (mem_waiters h).2 ⟨g, by rw [hw]; simp, hg⟩
  refine ⟨_, hV, hin, ?_, bfs_start hV (mem_with.2 (.inl rfl)) (fun a => asc_nodup (asc_for t a)) hin hW⟩
  have h1 := wtR_len (waitersL (t.held ++ t.wait)) tx
  have h2 := waitersFold_len (t.held ++ t.wait) []
  have h3 := h.few
  unfold waitersL at h1 ⊢
  rw [List.length_append, List.length_nil] at h2
  omega
theorem for_wf {t : Tb} (hg : GoodTb t) (h : TbOk t) {a x : Int} (hx : x ∈ forR t a) : (Lit.int .i64 x).wf = true := by
  obtain ⟨p, g, q, hw, _, ⟨y, hy, _, rfl⟩ | ⟨y, hy, _, rfl⟩⟩ := (mem_for h).1 hx
  · exact (hg.held y hy).tx
  · exact (hg.wait y (by rw [hw]; exact List.mem_append_left _ hy)).tx
theorem CyAt.start {w w3 w4 : World} {box : List Value} {bm b1 g : Nat} {tx : Int} (h : Hp w [.ob w.heap.size 25 box] w3) (hs : SeenM w3 bm 0 []) (hl : w.heap.size < bm) (hm : Hp w3 [.ob b1 3 [.int .i64 tx], .ob g 38 [.slice (some ⟨b1, 0, none⟩) 1 1]] w4) :
    CyAt w w4 box g 0 1 [.slice (some ⟨b1, 0, none⟩) 1 1] [[tx]] [] bm 0 [(b1, 0, [.int .i64 tx])] := by
  have hm2 : Hp w3 ([.ob g 38 [.slice (some ⟨b1, 0, none⟩) 1 1]] ++ [.ob b1 3 [.int .i64 tx]]) w4 := hm.pull [1, 0] rfl (pull_nd hm.nd [1, 0] rfl (by decide))
  obtain ⟨hb1, hm3⟩ := Hp.obrd hm2
  have hg := (hm3.in 0 rfl).1
  have h1 := h.meet hm3 (fun x hx => by
    simp only [List.mem_append, List.mem_cons, List.not_mem_nil, or_false] at hx
    rcases hx with rfl | rfl
    · exact ⟨Nat.le_trans h.old.size (hm3.in 0 rfl).1, (hm3.in 0 rfl).2⟩
    · exact hm3.reads 1 rfl) (fun x hx c hc => by
    simp only [List.mem_append, List.mem_cons, List.not_mem_nil, or_false] at hx
    rcases hx with rfl | rfl
    · cases hc
    · obtain rfl : c = b1 := by simpa [Th.reads] using hc
      exact .inl hb1)
  have hlt := hs.lt
  refine ⟨h1, hs.below hm.old, Nat.le_of_lt hl, ⟨by omega, by omega, fun e => ?_⟩, ⟨Nat.le_refl _, Nat.le_refl _, by decide⟩, fun i p hp => ?_, fun x hx => ?_⟩
  · have : bm = b1 := by simpa using e
    omega
  · have hi := (List.getElem?_eq_some_iff.1 hp).1
    obtain rfl : i = 0 := by simpa using hi
    obtain rfl : [tx] = p := by simpa using hp
    exact ⟨_, rfl, one_rd b1 tx⟩
  · obtain rfl := List.mem_singleton.1 hx
    exact Nat.le_trans h.old.size hb1
theorem bfs_head {tx : Int} {p l : List Int} {i : Nat} {x : Int} {q : List (List Int)} {r : List Int} (h : l[i]? = some x) : bfsIn tx p (l.drop i) q r = if x = tx then none else if x ∈ r then bfsIn tx p (l.drop (i + 1)) q r else bfsIn tx p (l.drop (i + 1)) (q ++ [p ++ [x]]) (r ++ [x]) := by
  obtain ⟨hi, rfl⟩ := List.getElem?_eq_some_iff.1 h
  rw [List.drop_eq_getElem_cons hi]; rfl
set_option maxHeartbeats 16000000 in
theorem pcycle_any {h v : Value} {t : Tb} {R : List Rng} (tx : Int) (w : World) (ht : TbRd h v t R) (hR : RdIn w R) (hg : GoodTb t) :
    Calls Try.prog 14 #[.agg (tbCells h v).toArray, .int .i64 tx] w (IntsPost w (cycR t tx)) := by
  have HVa : Hid (∀ W, Below w.heap.size w W → Calls Try.prog 29 #[.agg (tbCells h v).toArray] W fun e w' => e = .returned (.bool (tbOkB t)) ∧ Below W.heap.size W w') := fun W hb => plkvalid_any W ht (hR.below hb) hg
  have HSt : Hid (tbOkB t = true → ∃ V : List Int, V.Nodup ∧ (∀ a, ∀ x ∈ forR t a, x ∈ V) ∧ V.length ≤ 2000 ∧ BfsAt (forR t) tx V (V.length + 2) (V.length + 1) [[tx]] [] (cycR t tx)) := fun hok => cyc_start (tbOkB_iff.1 hok) tx
  have HWf : Hid (tbOkB t = true → ∀ a, ∀ x ∈ forR t a, (Lit.int .i64 x).wf = true) := fun hok a x hx => for_wf hg (tbOkB_iff.1 hok) hx
  have HNd : Hid (∀ a, (forR t a).Nodup) := fun a => asc_nodup (asc_for t a)
  have HFl : Hid (∀ x, (forR t x).length ≤ 1024) := fun x => for_few t x
  have HFr : Hid (tbOkB t = true → ∀ x W, Below w.heap.size w W → Calls Try.prog 31 #[.agg (tbCells h v).toArray, .int .i64 x] W (IntsPost W (forR t x))) := fun hok x W hb => pawait_any x W ht (hR.below hb) hg hok
  have HNo : Hid (tbOkB t = false → cycR t tx = []) := cyc_invalid
  obtain ⟨a, cap, rfl, hnc, hcm⟩ := ht.1.shape
  obtain ⟨a2, cap2, rfl, hnc2, hcm2⟩ := ht.2.shape
  have HUI : Hid (Try.prog.underlying 38 = some (.slice 3)) := Try.underlying38
  have HUJ : Hid (Try.prog.underlying 64 = some (.slice 38)) := Try.underlying64
  clear ht hR hg hnc hcm hnc2 hcm2
  generalize cycR t tx = res at *
  generalize forR t = ff at *
  generalize tbOkB t = ok at *
  have hmk := run_makeSet0
  have h1 := (Hp.start w).put 25 (tbCells (.slice a t.held.length cap) (.slice a2 t.wait.length cap2))
  simp only [List.nil_append] at h1
  have HS0 : Hid (Hp w [.ob w.heap.size 25 (tbCells (.slice a t.held.length cap) (.slice a2 t.wait.length cap2))] (w.alloc (.cells (tbCells (.slice a t.held.length cap) (.slice a2 t.wait.length cap2)).toArray 25))) := h1
  clear h1
  obtain ⟨fsHUG, huHUG⟩ := under_gr
  have HUG := Lib.hid huHUG
  clear huHUG
  obtain ⟨fsHUT, huHUT⟩ := under_tb
  have HUT := Lib.hid huHUT
  clear huHUT
  go_enter Try.func14, Try.ntmps14
  go_upto_region 1 with (fail)
  generalize (w.alloc (.cells (tbCells (.slice a t.held.length cap) (.slice a2 t.wait.length cap2)).toArray 25)) = w1 at *
  go_wp2_with (first | ((with_reducible refine wpList_load_ob 25 (.tmp 2) (w.heap.size) (tbCells (.slice a t.held.length cap) (.slice a2 t.wait.length cap2)) 25 HUT.out ?_ ?_ ?_ ?_ ?_); (exact rfl); (exact (HS0.out).get 0 rfl); (exact rfl); (exact info_tb); simp only [Act.put, List.setIfInBounds_toArray, List.set_cons_zero, List.set_cons_succ]))
  refine (HVa.out _ (HS0.out).old).mono ?_
  rintro e w21 ⟨rfl, hb⟩
  have HS21 : Hid (Hp w [.ob (w.heap.size) 25 (tbCells (.slice a t.held.length cap) (.slice a2 t.wait.length cap2))] w21) := (HS0.out).calls hb
  clear hb
  clear HS0
  cases ok
  · have HR1 := Lib.hid (HNo.out rfl)
    go_wp2_with fail
    go_ret
    rw [HR1.out]
    exact int_none HS21.out.old
  obtain ⟨V, hVn, hVf, hVl, hbf0⟩ := HSt.out rfl
  have HVn := Lib.hid hVn
  have HVf := Lib.hid hVf
  have HVl := Lib.hid hVl
  have HB0 := Lib.hid hbf0
  have HFr2 := Lib.hid (HFr.out rfl)
  have HWf2 := Lib.hid (HWf.out rfl)
  clear HNo HFr HVa HSt HWf hVn hVf hVl hbf0
  go_upto_region 4 with (fail)
  clear hmk
  have HX3 := Lib.hid (HS21.out.calls ((Below.refl _ _).alloc (Nat.le_refl _) (.map #[] 0)))
  have HSe3 := Lib.hid (SeenM.made w21)
  have HBm : Hid (w.heap.size < w21.heap.size) := Lib.hid (HS21.out.lt 0 rfl rfl).2
  generalize w21.alloc (.map #[] 0) = w3 at *
  generalize w21.heap.size = bm at *
  have HS3 := Lib.hid (Hp.start w3)
  clear HS21
  go_wp2_with (first | ((with_reducible refine wpList_build_vals 38 1 elem_i HUI.out [.int .i64 tx] ?_ ?_ ?_ ?_ ?_ ?_); (exact (by intro v hv; simp only [List.mem_cons, List.not_mem_nil, or_false] at hv; subst hv; rfl)); (exact Nat.succ_pos _); (simp only [List.length_cons, List.length_nil]; omega); (exact rfl); (simp only [List.map_toArray, List.map_cons, List.map_nil, List.zipIdx_cons, List.zipIdx_nil]; exact rfl); simp only [Act.put, List.setIfInBounds_toArray, List.set_cons_zero, List.set_cons_succ]) | ((with_reducible refine wpList_build_vals 64 1 elem_is HUJ.out [.slice (some ⟨w3.heap.size, 0, none⟩) 1 1] ?_ ?_ ?_ ?_ ?_ ?_); (exact (by intro v hv; simp only [List.mem_cons, List.not_mem_nil, or_false] at hv; subst hv; rfl)); (exact Nat.succ_pos _); (simp only [List.length_cons, List.length_nil]; omega); (exact rfl); (simp only [List.map_toArray, List.map_cons, List.map_nil, List.zipIdx_cons, List.zipIdx_nil]; exact rfl); simp only [Act.put, List.setIfInBounds_toArray, List.set_cons_zero, List.set_cons_succ]))
  have HS41 : Hid (Hp w3 [.ob (w3.heap.size) 3 ([.int .i64 tx]), .ob ((w3.alloc (.cells ([.int .i64 tx]).toArray 3)).heap.size) 38 ([.slice (some ⟨w3.heap.size, 0, none⟩) 1 1])] ((w3.alloc (.cells ([.int .i64 tx]).toArray 3)).alloc (.cells ([.slice (some ⟨w3.heap.size, 0, none⟩) 1 1]).toArray 38))) := ((HS3.out).put 3 ([.int .i64 tx])).put 38 ([.slice (some ⟨w3.heap.size, 0, none⟩) 1 1])
  clear HS3
  generalize ((w3.alloc (.cells ([.int .i64 tx]).toArray 3)).alloc (.cells ([.slice (some ⟨w3.heap.size, 0, none⟩) 1 1]).toArray 38)) = w41 at *
  generalize (w3.alloc (.cells ([.int .i64 tx]).toArray 3)).heap.size = B41 at *
  generalize w3.heap.size = B42 at *
  have HC0 := Lib.hid (CyAt.start HX3.out HSe3.out HBm.out HS41.out)
  clear HX3 HSe3 HBm HS41
  go_loopg [6] (V.length + 1) (fun m qv wr => ∃ (q : List (List Int)) (r : List Int) (g off cap9 k : Nat) (cs : List Value) (RR : List Rng) (m0 : Nat), m0 = m ∧ qv = .slice (some ⟨g, off, none⟩) q.length cap9 ∧ BfsAt ff tx V (V.length + 2) m0 q r res ∧ k ≤ (V.length + 1 - m0) * 1024 ∧ m0 ≤ V.length + 1 ∧ CyAt w wr (tbCells (.slice a t.held.length cap) (.slice a2 t.wait.length cap2)) g off cap9 cs q r bm k RR)
  case atStart => exact ⟨[[tx]], [], _, 0, 1, 0, _, _, _, rfl, rfl, HB0.out, Nat.zero_le _, Nat.le_refl _, HC0.out⟩
  case round =>
    clear HC0 HB0
    obtain ⟨q, r, g, off, cap9, k, cs, RR, m, rfl, rfl, hbf, hk, hm, hc⟩ := hrel
    have HBf := Lib.hid hbf
    have HKm : Hid (k ≤ (V.length + 1 - m) * 1024 ∧ m ≤ V.length + 1) := ⟨hk, hm⟩
    have HC := Lib.hid hc
    clear hbf hk hm hc
    cases q with
    | nil =>
      have HE := Lib.hid HBf.out.done
      go_wp2_with fail
      go_ret
      rw [HE.out]
      exact int_none HC.out.hp.old
    | cons p q =>
      obtain ⟨m1, rfl⟩ : ∃ m1, m = m1 + 1 := ⟨m - 1, by have := HBf.out.pos; omega⟩
      obtain ⟨pv, hpv, hprd⟩ := HC.out.head
      have hp0 := (HBf.out.ways p (List.mem_cons_self ..)).1
      have hpK := (HBf.out.ways p (List.mem_cons_self ..)).2
      have HPl : Hid (p.length ≤ 5000) := Lib.hid (by have := HVl.out; omega)
      have HQl : Hid (q.length ≤ 5000) := Lib.hid (by have h1 := HBf.out.cnt; have := HVl.out; have := HKm.out.2; rw [List.length_cons] at h1; omega)
      obtain ⟨pa, pc, rfl, hpl, hpm, hpc0⟩ := IntRd.cells hprd
      obtain ⟨pg, poff, rfl, hpc⟩ := hpc0 hp0
      have HPv := Lib.hid hprd
      have c0 : wr.cell? ⟨g, off, none⟩ = some (.slice (some ⟨pg, poff, none⟩) p.length pc) := HC.out.hp.at 1 rfl off hpv
      obtain ⟨z, hz⟩ : ∃ z, p.length = z + 1 := ⟨p.length - 1, by omega⟩
      obtain ⟨u, hu⟩ : ∃ u, p.getLastD 0 = u := ⟨_, rfl⟩
      have hzu : p[z]? = some u := by have := last_at (l := p) (fun e => by rw [e] at hp0; cases hp0); rw [hz, hu] at this; exact this
      have HPc : Hid (∀ W, RdIn W RR → W.cell? ⟨pg, poff + z, none⟩ = some (.int .i64 u)) := fun W hW => hpc W hW z u hzu
      have hpw : IntKind.i64.wrap ((p.length : Int) - 1) = (z : Int) := by rw [show (p.length : Int) - 1 = (z : Int) by omega]; exact IntWalk.i64_in _ (by have := HPl.out; omega)
      have hz0 : (0 : Int) ≤ (z : Int) := by omega
      have hzi : (z : Int) < (p.length : Int) := by omega
      have hq1 : (0 : Int) < (q.length : Int) + 1 := by omega
      have hq2 : (1 : Int) ≤ (q.length : Int) + 1 := by omega
      have hqc : q.length + 1 ≤ cap9 := by have := HC.out.fit.2.1; rwa [List.length_cons] at this
      have hqc2 : (q.length : Int) + 1 ≤ (cap9 : Int) := by omega
      have hqc3 : (1 : Int) ≤ (cap9 : Int) := by omega
      have HU : Hid (p.getLastD 0 = u) := hu
      obtain ⟨off2, hoff2⟩ : ∃ off2, (if cap9 = 1 then off else off + 1) = off2 := ⟨_, rfl⟩
      have HPop := HC.out.pop
      rw [hoff2] at HPop
      have HCp := Lib.hid HPop
      have HOf := Lib.hid hoff2
      obtain ⟨nx, hnx⟩ : ∃ nx, ff u = nx := ⟨_, rfl⟩
      have HNl : Hid (nx.length ≤ 1024) := Lib.hid (by rw [← hnx]; exact HFl.out u)
      have hnl : (nx.length : Int) ≤ 1024 := by have := HNl.out; omega
      have HNx := Lib.hid hnx
      have HRz := Lib.hid (Hp.startrd wr ((w.heap.size, 0, tbCells (.slice a t.held.length cap) (.slice a2 t.wait.length cap2)) :: RR) (fun x hx => (List.mem_cons.1 hx).elim (fun e => by rw [e]; exact ⟨(HC.out.hp.lt 0 rfl rfl).2, fun j v hv => by rw [Nat.zero_add]; exact HC.out.hp.at 0 rfl j hv⟩) (HC.out.hp.reads 2 rfl x)))
      have HAw : Hid (∀ W, Below wr.heap.size wr W → Calls Try.prog 31 #[.agg (tbCells (.slice a t.held.length cap) (.slice a2 t.wait.length cap2)).toArray, .int .i64 u] W (IntsPost W nx)) := fun W hb => by
        have := HFr2.out u W (HC.out.hp.old.trans (hb.mono HC.out.hp.old.size))
        rwa [hnx] at this
      clear hpc0 hp0 hpK hpl hpm hpc hpv hprd hz hu hzu HPop hoff2 hnx HC hqc
      simp only [List.length_cons]
      go_wp2_with fail
      go_step3
      go_upto_region 7 with (fail)
      clear c0
      go_cut [6] (fun s6 wx => s6 = .slice (some ⟨g, off2, none⟩) q.length (cap9 - 1) ∧ wr = wx)
      case first =>
        by_cases hc1 : cap9 = 1
        · have hov : off2 = off := by rw [← HOf.out, if_pos hc1]
          have HOv := Lib.hid hov
          clear HOf hov
          go_wp2_with fail
          go_meet
          refine ⟨?_, rfl⟩
          rw [HOv.out]
          all_goals simp [hc1]
        · have hov : off2 = off + 1 := by rw [← HOf.out, if_neg hc1]
          have HOv := Lib.hid hov
          clear HOf hov
          go_wp2_with fail
          go_meet
          refine ⟨?_, rfl⟩
          rw [HOv.out]
          all_goals simp [hc1]
      case rest =>
        obtain ⟨rfl, rfl⟩ := hcut
        clear HOf hq1 hq2 hqc2 hqc3
        go_wp2_with fail
        go_step3
        go_upto_region 8 with (fail)
        refine wp_region_held_drew (S := fun w' => w'.rangeAt w.heap.size 0 (tbCells (.slice a t.held.length cap) (.slice a2 t.wait.length cap2)) ∧ w'.cell? ⟨pg, poff + z, none⟩ = some (.int .i64 u)) (by kernel_rfl) (⟨(((HRz.out).drew).reads 0 rfl _ (List.mem_cons_self ..)).2, (HPc.out _ (RdIn.sub (((HRz.out).drew).reads 0 rfl) (fun x hx => List.mem_cons_of_mem _ hx)))⟩) (fun hHeld => ?_)
        refine wpAnyH_take (i := 0) (oi := { dst := some 25, op := Op.load 25 (Operand.tmp 2), type := 25, pos := "waits.go:71", after := #[], guard := none }) rfl (by kernel_rfl) (by kernel_rfl) (by kernel_rfl) (fun _ _ _ h => h) (yieldsIf_load_mid (by rfl) 25 (.tmp 2) rfl w.heap.size (0) rfl (tbCells (.slice a t.held.length cap) (.slice a2 t.wait.length cap2)) _ (fun _ h => h.1) HUT.out rfl (info_tb)) hHeld ?_
        try simp only [Act.put, List.setIfInBounds_toArray, List.set_cons_zero, List.set_cons_succ]
        refine wpAnyH_take (i := 1) (oi := { dst := some 26, op := Op.move (Operand.tmp 7), type := 38, pos := "waits.go:71", after := #[], guard := none }) (v := ?q52v) rfl (by kernel_rfl) (by kernel_rfl) (by kernel_rfl) (fun _ _ _ h => h) (Or.inl ⟨by rfl, ?q52h⟩) hHeld ?q52r
        case q52h => (intro wq hSw; clear hSw; go_simp; try with_reducible rfl)
        try simp only [Act.put, List.setIfInBounds_toArray, List.set_cons_zero, List.set_cons_succ]
        refine wpAnyH_take (i := 2) (oi := { dst := some 27, op := Op.move (Operand.tmp 7), type := 38, pos := "waits.go:71", after := #[], guard := none }) (v := ?q53v) rfl (by kernel_rfl) (by kernel_rfl) (by kernel_rfl) (fun _ _ _ h => h) (Or.inl ⟨by rfl, ?q53h⟩) hHeld ?q53r
        case q53h => (intro wq hSw; clear hSw; go_simp; try with_reducible rfl)
        try simp only [Act.put, List.setIfInBounds_toArray, List.set_cons_zero, List.set_cons_succ]
        refine wpAnyH_take (i := 3) (oi := { dst := some 28, op := Op.call { callee := Callee.builtin Builtin.len, args := #[Operand.tmp 27], argTypes := #[38] }, type := 3, pos := "waits.go:71", after := #[{ on := 2, ground := Ground.data }], guard := none }) (v := ?q54v) rfl (by kernel_rfl) (by kernel_rfl) (by kernel_rfl) (fun _ _ _ h => h) (Or.inl ⟨by rfl, ?q54h⟩) hHeld ?q54r
        case q54h => (intro wq hSw; clear hSw; go_simp; try with_reducible rfl)
        try simp only [Act.put, List.setIfInBounds_toArray, List.set_cons_zero, List.set_cons_succ]
        refine wpAnyH_take (i := 4) (oi := { dst := some 29, op := Op.binOp BinOp.sub 3 (Operand.tmp 28) (Operand.const (Value.int IntKind.i64 1)) 3, type := 3, pos := "waits.go:71", after := #[{ on := 3, ground := Ground.data }], guard := none }) (v := ?q55v) rfl (by kernel_rfl) (by kernel_rfl) (by kernel_rfl) (fun _ _ _ h => h) (Or.inl ⟨by rfl, ?q55h⟩) hHeld ?q55r
        case q55h => (intro wq hSw; clear hSw; go_simp; try with_reducible rfl)
        try simp only [Act.put, List.setIfInBounds_toArray, List.set_cons_zero, List.set_cons_succ]
        refine wpAnyH_take (i := 5) (oi := { dst := some 30, op := Op.indexAddr 38 (Operand.tmp 26) (Operand.tmp 29), type := 0, pos := "waits.go:71", after := #[{ on := 1, ground := Ground.data }, { on := 4, ground := Ground.data }], guard := none }) (v := ?q56v) rfl (by kernel_rfl) (by kernel_rfl) (by kernel_rfl) (fun _ _ _ h => h) (Or.inl ⟨by rfl, ?q56h⟩) hHeld ?q56r
        case q56h => (intro wq hSw; clear hSw; go_simp; try with_reducible rfl)
        try simp only [Act.put, List.setIfInBounds_toArray, List.set_cons_zero, List.set_cons_succ]
        refine wpAnyH_take (i := 6) (oi := { dst := some 31, op := Op.load 3 (Operand.tmp 30), type := 3, pos := "waits.go:71", after := #[{ on := 5, ground := Ground.data }], guard := none }) (v := .int .i64 u) rfl (by kernel_rfl) (by kernel_rfl) (by kernel_rfl) (fun _ _ _ h => h) (Or.inl ⟨by rfl, ?q57h⟩) hHeld ?q57r
        case q57h => (intro wq hSw; have lq := hSw.2; clear hSw; go_simp; try with_reducible rfl)
        try simp only [Act.put, List.setIfInBounds_toArray, List.set_cons_zero, List.set_cons_succ]
        refine wpAnyH_take (i := 9) (oi := { dst := some 34, op := Op.move (Operand.const (Value.int IntKind.i64 0)), type := 3, pos := "waits.go:71", after := #[], guard := none }) (v := ?q58v) rfl (by kernel_rfl) (by kernel_rfl) (by kernel_rfl) (fun _ _ _ h => h) (Or.inl ⟨by rfl, ?q58h⟩) hHeld ?q58r
        case q58h => (intro wq hSw; clear hSw; go_simp; try with_reducible rfl)
        try simp only [Act.put, List.setIfInBounds_toArray, List.set_cons_zero, List.set_cons_succ]
        refine wpAnyH_ready (rs := [7]) (by kernel_rfl) (by simp) ?_
        refine AllReadyH.cons (o := { dst := some 32, op := Op.call { callee := Callee.value (Operand.func 31), args := #[Operand.tmp 25, Operand.tmp 31], argTypes := #[25, 3] }, type := 38, pos := "waits.go:71", after := #[{ on := 0, ground := Ground.data }, { on := 6, ground := Ground.data }], guard := none }) rfl (fun K hK => ?_) (AllReadyH.nil)
        have HSz := Lib.hid ((HRz.out).drew).old.size
        go_simp
        go_wp2_with (go_at_call 31; refine (HAw.out _ ((HRz.out).drew).old).mono ?_; rintro e w61 ⟨v8, R8, rfl, hrd2, hin2, hnew2, hb⟩)
        obtain ⟨a8, c8, rfl, hl8, hm8, hg8⟩ := hrd2.cells
        have Hrd8 := Lib.hid hrd2
        have Hnw8 := Lib.hid hnew2
        have Hgc8 := Lib.hid hg8
        clear hg8
        have HS61 : Hid (Hp wr [.rd ((w.heap.size, 0, tbCells (.slice a t.held.length cap) (.slice a2 t.wait.length cap2)) :: RR), .rd R8] w61) := ((HRz.out).drew).addrd hb R8 hin2 (fun r hr => .inl (hnew2 r hr))
        refine hK.out _ _ (⟨((HS61.out).reads 0 rfl _ (List.mem_cons_self ..)).2, (HPc.out _ (RdIn.sub ((HS61.out).reads 0 rfl) (fun x hx => List.mem_cons_of_mem _ hx)))⟩) (fun hHeld => ?_)
        clear hK K hb hin2 hrd2 hnew2
        try simp only [Act.put, List.setIfInBounds_toArray, List.set_cons_zero, List.set_cons_succ]
        refine wpAnyH_take (i := 8) (oi := { dst := some 33, op := Op.call { callee := Callee.builtin Builtin.len, args := #[Operand.tmp 32], argTypes := #[38] }, type := 3, pos := "waits.go:71", after := #[{ on := 7, ground := Ground.data }], guard := none }) (v := ?q59v) rfl (by kernel_rfl) (by kernel_rfl) (by kernel_rfl) (fun _ _ _ h => h) (Or.inl ⟨by rfl, ?q59h⟩) hHeld ?q59r
        case q59h => (intro wq hSw; clear hSw; go_simp; try with_reducible rfl)
        try simp only [Act.put, List.setIfInBounds_toArray, List.set_cons_zero, List.set_cons_succ]
        refine wpAnyH_done (by kernel_rfl) ?_ _
        clear hHeld
        have HC8 : Hid (CyAt w w61 (tbCells (.slice a t.held.length cap) (.slice a2 t.wait.length cap2)) g off2 (cap9 - 1) cs q r bm k (RR ++ R8)) := Lib.hid (HCp.out.addrd HS61.out.old (HS61.out.reads 1 rfl) (fun x hx => Nat.le_trans HSz.out (Hnw8.out x hx)))
        have HP8 : Hid (IntRd (.slice (some ⟨pg, poff, none⟩) p.length pc) p (RR ++ R8)) := SlRd.mono HPv.out (fun x hx => List.mem_append_left _ hx)
        obtain ⟨X, hX⟩ : ∃ X, bfsIn tx p nx q r = X := ⟨_, rfl⟩
        have HX : Hid (bfsIn tx p (ff (p.getLastD 0)) q r = X) := Lib.hid (by rw [HU.out, HNx.out]; exact hX)
        have HX0 : Hid (bfsIn tx p (nx.drop 0) q r = X) := Lib.hid (by rw [List.drop_zero]; exact hX)
        have HR8 : Hid (∀ x ∈ R8, x ∈ RR ++ R8) := fun x hx => List.mem_append_right _ hx
        clear hX HCp HPv HPc HSz Hnw8  HAw hpw hz0 hzi
        go_wp2_with fail
        go_loopw [6, 34] (fun qv iv wr => ∃ (i : Nat) (q1 : List (List Int)) (r1 : List Int) (g off cap9 k1 : Nat) (cs : List Value) (RR : List Rng), i ≤ nx.length ∧ iv = .int .i64 i ∧ qv = .slice (some ⟨g, off, none⟩) q1.length cap9 ∧ bfsIn tx p (nx.drop i) q1 r1 = X ∧ k1 ≤ k + i ∧ q1.length ≤ q.length + i ∧ (∀ x ∈ R8, x ∈ RR) ∧ IntRd (.slice (some ⟨pg, poff, none⟩) p.length pc) p RR ∧ CyAt w wr (tbCells (.slice a t.held.length cap) (.slice a2 t.wait.length cap2)) g off cap9 cs q1 r1 bm k1 RR) (fun _ iv _ => nx.length - (intOf iv).toNat)
        case atStart => exact ⟨0, q, r, g, off2, cap9 - 1, k, cs, _, by omega, rfl, rfl, HX0.out, by omega, by omega, HR8.out, HP8.out, HC8.out⟩
        case round =>
          clear HC8 HX0 HR8 HP8 HS61
          obtain ⟨i, q1, r1, g, off, cap9, k1, cs, RR, hi, rfl, rfl, hbi, hk1, hq1, hr8, hpv, hc⟩ := hrel
          have HBi := Lib.hid hbi
          have HK1 : Hid (k1 ≤ k + i ∧ q1.length ≤ q.length + i) := ⟨hk1, hq1⟩
          have HR8 := Lib.hid hr8
          have HPv := Lib.hid hpv
          have HC := Lib.hid hc
          clear hbi hk1 hq1 hr8 hpv hc
          by_cases hlt : i < nx.length
          · obtain ⟨g8, off8, rfl, hc8⟩ := Hgc8.out (by omega)
            obtain ⟨x, hx⟩ : ∃ x, nx[i]? = some x := ⟨_, List.getElem?_eq_getElem hlt⟩
            have c8 : wr.cell? ⟨g8, off8 + i, none⟩ = some (.int .i64 x) := hc8 wr ((HC.out.hp.reads 2 rfl).sub HR8.out) i x hx
            have hii : (i : Int) < (nx.length : Int) := by omega
            have hi0 : (0 : Int) ≤ (i : Int) := by omega
            have HIt := Lib.hid hlt
            have HWx : Hid ((Lit.int .i64 x).wf = true) := HWf2.out u x (by rw [HNx.out]; exact List.mem_of_getElem? hx)
            have hbh := bfs_head (tx := tx) (p := p) (q := q1) (r := r1) hx
            rw [HBi.out] at hbh
            clear hc8 hi hlt hx HBi Hgc8
            by_cases hxt : x = tx
            · rw [if_pos hxt] at hbh
              have HE : Hid (res = p) := Lib.hid (HBf.out.closed (by rw [HX.out, hbh]))
              obtain ⟨e1, n1⟩ := eq_facts hxt
              clear hbh hxt
              go_wp2_with fail
              go_ret
              rw [HE.out]
              exact ⟨_, RR, rfl, HPv.out, HC.out.hp.reads 2 rfl, HC.out.fresh, HC.out.hp.old⟩
            · rw [if_neg hxt] at hbh
              obtain ⟨e1, n1⟩ := ne_facts hxt
              clear hxt
              by_cases hxr : x ∈ r1
              · rw [if_pos hxr] at hbh
                have HBn := Lib.hid hbh.symm
                have lq := seen_look HC.out.seen HWx.out (decide_eq_true hxr)
                clear hbh hxr
                go_wp2_with fail
                go_roundw
                case rel => exact ⟨i + 1, q1, r1, g, off, cap9, k1, cs, RR, HIt.out, by go_num, rfl, HBn.out, by have := HK1.out.1; omega, by have := HK1.out.2; omega, HR8.out, HPv.out, HC.out⟩
                case measure => simp [intOf]; try (have := HIt.out; omega)
              · rw [if_neg hxr] at hbh
                obtain ⟨px, hpx⟩ : ∃ px, p ++ [x] = px := ⟨_, rfl⟩
                rw [hpx] at hbh
                have HPx := Lib.hid hpx
                clear hpx
                have HBn := Lib.hid hbh.symm
                have lq := seen_look HC.out.seen HWx.out (decide_eq_false hxr)
                have HKm2 : Hid (k1 < maxLen) := Lib.hid (by have h1 := HK1.out.1; have h2 := HKm.out; have h3 := HVl.out; have h4 := HNl.out; have h5 := HIt.out; unfold maxLen; omega)
                clear hbh hxr
                go_upto_region 14 with (fail)
                go_wp2_with (first | ((with_reducible refine wpList_store_seen (.tmp 47) (.tmp 48) HC.out.seen HKm2.out HWx.out ?_ ?_ ?_); (exact rfl); (exact rfl)))
                intro w90 hsn hgn
                have HM := Lib.hid (HC.out.mark hsn hgn)
                clear hsn hgn HC lq c8
                have HS90 := Lib.hid (Hp.startrd w90 RR (HM.out.hp.reads 2 rfl))
                go_wp2_with (first | ((with_reducible refine wpList_build_vals 38 1 elem_i HUI.out [.int .i64 x] ?_ ?_ ?_ ?_ ?_ ?_); (exact (by intro v hv; simp only [List.mem_cons, List.not_mem_nil, or_false] at hv; subst hv; rfl)); (exact Nat.succ_pos _); (simp only [List.length_cons, List.length_nil]; omega); (exact rfl); (simp only [List.map_toArray, List.map_cons, List.map_nil, List.zipIdx_cons, List.zipIdx_nil]; exact rfl); simp only [Act.put, List.setIfInBounds_toArray, List.set_cons_zero, List.set_cons_succ]) | ((with_reducible refine wpList_build_vals 64 2 elem_is HUJ.out [.slice (some ⟨pg, poff, none⟩) p.length pc, .slice (some ⟨w90.heap.size, 0, none⟩) 1 1] ?_ ?_ ?_ ?_ ?_ ?_); (exact (by intro v hv; simp only [List.mem_cons, List.not_mem_nil, or_false] at hv; rcases hv with rfl | rfl <;> rfl)); (exact Nat.succ_pos _); (simp only [List.length_cons, List.length_nil]; omega); (exact rfl); (simp only [List.map_toArray, List.map_cons, List.map_nil, List.zipIdx_cons, List.zipIdx_nil]; exact rfl); simp only [Act.put, List.setIfInBounds_toArray, List.set_cons_zero, List.set_cons_succ]))
                have HS101 : Hid (Hp w90 [.rd RR, .ob (w90.heap.size) 3 ([.int .i64 x]), .ob (w90.heap.size + 1) 38 ([.slice (some ⟨pg, poff, none⟩) p.length pc, .slice (some ⟨w90.heap.size, 0, none⟩) 1 1])] ((w90.alloc (.cells ([.int .i64 x]).toArray 3)).alloc (.cells ([.slice (some ⟨pg, poff, none⟩) p.length pc, .slice (some ⟨w90.heap.size, 0, none⟩) 1 1]).toArray 38))) := (by have h9 := ((HS90.out).put 3 ([.int .i64 x])).put 38 ([.slice (some ⟨pg, poff, none⟩) p.length pc, .slice (some ⟨w90.heap.size, 0, none⟩) 1 1]); simp only [World.size_alloc] at h9; exact h9)
                clear HS90
                generalize ((w90.alloc (.cells ([.int .i64 x]).toArray 3)).alloc (.cells ([.slice (some ⟨pg, poff, none⟩) p.length pc, .slice (some ⟨w90.heap.size, 0, none⟩) 1 1]).toArray 38)) = w101 at *
                generalize w90.heap.size + 1 = B101 at *
                generalize w90.heap.size = B102 at *
                have HCn := concat_any p [x] (.slice (some ⟨pg, poff, none⟩) p.length pc) (.slice (some ⟨B102, 0, none⟩) 1 1) B101 (RR ++ [(B102, 0, [.int .i64 x])]) w101 (ob_rdin HS101.out 2 rfl) (SlRd.mono HPv.out (fun y hy => List.mem_append_left _ hy)) (SlRd.mono (one_rd B102 x) (fun y hy => List.mem_append_right _ hy)) ((HS101.out.reads 0 rfl).append (ob_rdin HS101.out 1 rfl)) (by have := HPl.out; rw [List.length_singleton]; omega) (by rw [List.length_singleton]; omega)
                rw [HPx.out] at HCn
                go_wp2_with fail
                refine (HCn).mono ?_
                rintro e w102 ⟨u0, rfl, ho, hb⟩
                have HS102 : Hid (Hp w90 [.rd RR, .ob B102 3 ([.int .i64 x]), .ob B101 38 ([.slice (some ⟨pg, poff, none⟩) p.length pc, .slice (some ⟨B102, 0, none⟩) 1 1]), .sl u0 3 1 (px.length) (intRow px)] w102) := (HS101.out).addown hb ho
                clear hb ho
                clear HS101
                clear HCn
                obtain ⟨a0, c0, rfl⟩ := own_slice (HS102.out.own 3 rfl)
                have HS103 : Hid (Hp w90 [.sl ((.slice a0 px.length c0)) 3 1 (px.length) (intRow px)] w102) := HS102.out.pull [3] rfl (pull_nd HS102.out.nd [3] rfl (by decide))
                clear HS102
                obtain ⟨Ru, hru, hun, hs92⟩ := Hp.ownrd2 (A := []) HS103.out
                have HS92 : Hid (Hp w90 [.rd Ru] w102) := hs92
                have HRu : Hid (IntRd (.slice a0 px.length c0) px Ru) := hru
                have HUn := Lib.hid hun
                clear hru hun hs92 HS103
                have HS93 : Hid (Hp w90 [.ob w102.heap.size 38 [.slice a0 px.length c0], .rd Ru] (w102.alloc (.cells ([.slice a0 px.length c0]).toArray 38))) := ((HS92.out).put 38 [.slice a0 px.length c0]).pull [1, 0] rfl (pull_nd ((HS92.out).put 38 [.slice a0 px.length c0]).nd [1, 0] rfl (by decide))
                have HJ := Lib.hid (HM.out.beside HS93.out HUn.out)
                go_wp2_with (first | ((with_reducible refine wpList_build_vals 64 1 elem_is HUJ.out [.slice a0 px.length c0] ?_ ?_ ?_ ?_ ?_ ?_); (exact (by intro v hv; simp only [List.mem_cons, List.not_mem_nil, or_false] at hv; subst hv; rfl)); (exact Nat.succ_pos _); (simp only [List.length_cons, List.length_nil]; omega); (exact rfl); (simp only [List.map_toArray, List.map_cons, List.map_nil, List.zipIdx_cons, List.zipIdx_nil]; exact rfl); simp only [Act.put, List.setIfInBounds_toArray, List.set_cons_zero, List.set_cons_succ]) | ((with_reducible refine wpList_append_que HJ.out (.tmp 49) (.tmp 55) 1 (g := g) (cs := cs) ?_ 2 (b := w102.heap.size) (t' := 38) (u := .slice a0 px.length c0) (off := off) (n := q1.length) (cap := cap9) ?_ ?_ HM.out.fit.1 HM.out.fit.2.1 HM.out.fit.2.2 ?_ ?_ ?_ ?_); (exact rfl); (exact rfl); (exact rfl); (exact (by have h1 := HK1.out.2; have h2 := HQl.out; have h3 := HNl.out; have h4 := HIt.out; omega)); (exact rfl); (exact rfl)))
                intro g2 o2 c2 cs2 w95 hq
                have HF := Lib.hid (HM.out.push HS93.out HUn.out HRu.out hq)
                have HPw : Hid (IntRd (.slice (some ⟨pg, poff, none⟩) p.length pc) p (RR ++ Ru)) := SlRd.mono HPv.out (fun y hy => List.mem_append_left _ hy)
                clear hq HJ HM HS92 HS93 HRu
                go_wp2_with fail
                go_roundw
                case rel => exact ⟨i + 1, q1 ++ [px], r1 ++ [x], g2, o2, c2, k1 + 1, cs2, RR ++ Ru, HIt.out, by go_num, by rw [List.length_append]; rfl, HBn.out, by have := HK1.out.1; omega, by have := HK1.out.2; rw [List.length_append, List.length_singleton]; omega, fun y hy => List.mem_append_left _ (HR8.out y hy), HPw.out, HF.out⟩
                case measure => simp [intOf]; try (have := HIt.out; omega)
          · obtain rfl : i = nx.length := by omega
            have HE : Hid (X = some (q1, r1)) := Lib.hid (by have := HBi.out; rw [List.drop_length] at this; exact this.symm)
            have HBm := Lib.hid (HBf.out.next HVn.out HNd.out HVf.out (by rw [HX.out, HE.out]))
            clear hlt hi HBi
            go_wp2_with fail
            simp only [Exit.noGoto_normal, Exit.inBlock, Exit.then]
            refine ‹∀ (a' : Act) (w' : World), Handed _ (m1 + 1) a' w' → _› _ _ ?_
            go_roundg m1
            case rel => exact ⟨q1, r1, g, off, cap9, k1, cs, RR, m1, rfl, rfl, HBm.out, by have h1 := HK1.out.1; have h2 := HKm.out; have h3 := HNl.out; omega, by have h2 := HKm.out; omega, HC.out⟩
            case measure => exact Nat.lt_succ_self _
end Go.Proofs.Ytooaldglgkjjgaa
/- the program's Waiting and turn (locks) -/
namespace Go.Proofs.Ytooaldglgkjjgaa
open Go.RowKit
set_option maxRecDepth 20000
set_option linter.unusedSimpArgs false
set_option linter.unusedVariables false

def passB (h : List Gr) (g : Gr) (x : Gr) : Bool := decide (x.page = g.page) && (decide (x.slot = g.slot) && decide (modeG h x = 0))
theorem up_dec {h : List Gr} (hok : ∀ g ∈ h, GrOk g) (x : Gr) : decide (0 < modeG h x) = !decide (modeG h x = 0) := by
  have := modeR_ge hok x.tx x.page x.slot
  by_cases h0 : modeG h x = 0
  · rw [decide_eq_true h0]
    have : ¬ 0 < modeG h x := by omega
    rw [decide_eq_false this]; rfl
  · rw [decide_eq_false h0]
    have : 0 < modeG h x := by unfold modeG at h0 ⊢; omega
    rw [decide_eq_true this]; rfl
theorem eg_turn : EntersF 73 := enters_of Try.func73 (by kernel_rfl) rfl
set_option maxHeartbeats 4000000 in
theorem turn_at {hv v : Value} (t : Tb) (R : List Rng) (g : Gr) (hg : GoodGr g) (ht : TbRd hv v t R) (hh : HeldOk t.held) (hl : t.held.length ≤ 200000) (b c : Nat) (l : List Gr) (hgo : ∀ x ∈ l, GoodGr x) :
    GrAt 73 #[.pointer (some ⟨b, 0, none⟩), .pointer (some ⟨c, 0, none⟩)] (passB t.held g) l ([(b, 0, grCells g), (c, 0, tbCells hv v)] ++ R) := by
  intro W x hx hR
  have hb := hR (b, 0, grCells g) (by simp)
  have hc := hR (c, 0, tbCells hv v) (by simp)
  have hr : RdIn W R := hR.sub (fun r h => List.mem_append_right _ h)
  obtain ⟨a, cap, rfl, _, _⟩ := ht.1.shape
  have HUp : Hid (∀ V, Below W.heap.size W V → Calls Try.prog 74 #[.slice a t.held.length cap, .agg (grCells x).toArray] V fun e w' => e = .returned (.bool (decide (0 < modeG t.held x))) ∧ Below V.heap.size V w') := fun V h2 => upgrade_any x t.held _ R V hh.up ht.1 (hr.below h2) hl
  have HLtb : Hid (b < W.heap.size) := hb.1
  have HLtc : Hid (c < W.heap.size) := hc.1
  have g1 : W.cell? ⟨b, 1, none⟩ = some (.int .i64 g.page) := hb.2 1 _ rfl
  have g2 : W.cell? ⟨b, 2, none⟩ = some (.int .i64 g.slot) := hb.2 2 _ rfl
  have c0 : W.cell? ⟨c, 0, none⟩ = some (.slice a t.held.length cap) := hc.2 0 _ rfl
  have hq : ∀ W, Sem.run Try.prog (binOp .eql 27 (.agg #[.int .i64 x.page, .int .i64 x.slot]) (.agg #[.int .i64 g.page, .int .i64 g.slot])) W = .ok (.bool (sameV x.lock g.lock)) W := fun W => run_eql (equal_lk x.lock g.lock (hgo x hx).lock hg.lock) W
  have hs := lock_same x g.lock
  have HV : Hid (passB t.held g x = (sameV x.lock g.lock && !decide (0 < modeG t.held x))) := Lib.hid (by unfold passB; rw [hs, up_dec hh.ok, Bool.not_not, Bool.and_assoc])
  have h1 := (Hp.start W).put 29 (grCells x)
  have HS0 : Hid (Hp W [.ob W.heap.size 29 (grCells x)] (W.alloc (.cells (grCells x).toArray 29))) := h1
  clear h1 hR hb hc hg hgo hs hr ht hh hl
  obtain ⟨fs, hu⟩ := under_gr
  have HUG := Lib.hid hu
  clear hu
  generalize sameV x.lock g.lock = q at *
  obtain ⟨pb, hpb⟩ : ∃ pb, passB t.held g x = pb := ⟨_, rfl⟩
  show Calls Try.prog 73 #[.agg (grCells x).toArray, .pointer (some ⟨b, 0, none⟩), .pointer (some ⟨c, 0, none⟩)] W fun e w' => e = .returned (.bool (passB t.held g x)) ∧ Below W.heap.size W w'
  rw [hpb] at HV ⊢
  clear hpb
  generalize decide (0 < modeG t.held x) = up at *
  go_enter Try.func73, Try.ntmps73
  go_upto_region 1 with (fail)
  have x1 : (W.alloc (.cells (grCells x).toArray 29)).cell? ⟨W.heap.size, 1, none⟩ = some (.int .i64 x.page) := HS0.out.at 0 rfl 1 rfl
  have x2 : (W.alloc (.cells (grCells x).toArray 29)).cell? ⟨W.heap.size, 2, none⟩ = some (.int .i64 x.slot) := HS0.out.at 0 rfl 2 rfl
  have dg1 := (HS0.out.old.cell (p := ⟨b, 1, none⟩) HLtb.out).trans g1
  have dg2 := (HS0.out.old.cell (p := ⟨b, 2, none⟩) HLtb.out).trans g2
  have dc0 := (HS0.out.old.cell (p := ⟨c, 0, none⟩) HLtc.out).trans c0
  clear g1 g2 c0
  generalize (W.alloc (.cells (grCells x).toArray 29)) = w1 at *
  cases q
  · have HX : Hid (pb = false) := Lib.hid (by rw [HV.out]; rfl)
    go_wp2_with fail
    go_ret
    exact ⟨by rw [HX.out]; rfl, HS0.out.old⟩
  · have HX : Hid (pb = !up) := Lib.hid (by rw [HV.out]; rfl)
    go_wp2_with (first | ((with_reducible refine wpList_load_ob_w 29 (.tmp 3) W.heap.size (grCells x) 29 HUG.out ?_ ?_ ?_ ?_ ?_ ?_); (exact rfl); (exact rfl); (exact HS0.out.get 0 rfl); (exact rfl); (exact info_gr); simp only [Act.put, List.setIfInBounds_toArray, List.set_cons_zero, List.set_cons_succ]))
    refine (HUp.out _ HS0.out.old).mono ?_
    rintro e w2 ⟨rfl, hb⟩
    have HS1 := Lib.hid (HS0.out.calls hb)
    clear hb x1 x2 dg1 dg2 dc0 HS0
    go_wp2_with fail
    go_ret
    exact ⟨by rw [HX.out]; rfl, HS1.out.old⟩
theorem wplace_idx (h l : List Gr) (g : Gr) : (idxR (passB h g) l = -1 ∧ wplaceR h l g = l.length) ∨ ∃ k : Nat, k < l.length ∧ idxR (passB h g) l = (k : Int) ∧ (wplaceR h l g = if modeG h g = 0 then l.length else k) := by
  by_cases hi : idxR (passB h g) l = -1
  · refine .inl ⟨hi, ?_⟩
    unfold wplaceR
    split
    · rfl
    · rw [List.findIdx_eq_length]
      intro x hx
      have := List.all_eq_true.1 (idxR_neg hi) x hx
      unfold passB at this
      rw [Bool.not_eq_true'] at this
      exact this
  · obtain ⟨k, hk, e, ha, hx⟩ := idxR_pos hi
    refine .inr ⟨k, hk, e, ?_⟩
    unfold wplaceR
    split
    · rfl
    · rw [List.findIdx_eq hk]
      refine ⟨by unfold passB at hx; exact hx, fun j hj => ?_⟩
      have hm : l[j] ∈ l.take k := List.mem_take_iff_getElem.2 ⟨j, by omega, rfl⟩
      have := List.all_eq_true.1 ha _ hm
      unfold passB at this
      rw [Bool.not_eq_true'] at this
      exact this
set_option maxHeartbeats 8000000 in
theorem turn_any {h v : Value} {t : Tb} {R : List Rng} (g : Gr) (w : World) (ht : TbRd h v t R) (hR : RdIn w R) (hg : GoodTb t) (hk : GoodGr g) (hh : HeldOk t.held) :
    Calls Try.prog 48 #[.agg (tbCells h v).toArray, .agg (grCells g).toArray] w fun e w' => e = .returned (.int .i64 (wplaceR t.held t.wait g : Nat)) ∧ Below w.heap.size w w' := by
  obtain ⟨a, cap, rfl, hnc, hcm⟩ := ht.1.shape
  obtain ⟨a2, cap2, rfl, hnc2, hcm2⟩ := ht.2.shape
  have HIx : Hid (∀ b c W, Below w.heap.size w W → RdIn W [(b, 0, grCells g), (c, 0, tbCells (.slice a t.held.length cap) (.slice a2 t.wait.length cap2))] → Calls Try.prog 59 #[.slice a2 t.wait.length cap2, .func (.func 73) #[] #[.pointer (some ⟨b, 0, none⟩), .pointer (some ⟨c, 0, none⟩)]] W fun e w' => e = .returned (.int .i64 (idxR (passB t.held g) t.wait)) ∧ Below W.heap.size W w') := fun b c W hb hr => idxGr_any _ _ _ t.wait _ R W eg_turn ((turn_at t R g hk ht hh (by have := hg.few; omega) b c t.wait hg.wait).fn (hr.append (hR.below hb))) ht.2 (hR.below hb) (by have := hg.few; omega)
  have HUp : Hid (∀ W, Below w.heap.size w W → Calls Try.prog 74 #[.slice a t.held.length cap, .agg (grCells g).toArray] W fun e w' => e = .returned (.bool (decide (0 < modeG t.held g))) ∧ Below W.heap.size W w') := fun W hb => upgrade_any g t.held _ R W hh.up ht.1 (hR.below hb) (by have := hg.few; omega)
  have HUd := Lib.hid (up_dec hh.ok g)
  have HWp := Lib.hid (wplace_idx t.held t.wait g)
  have HNw : Hid ((t.wait.length : Int) ≤ 100000) := Lib.hid (by have := hg.few; omega)
  have h1 := (((Hp.start w).put 25 (tbCells (.slice a t.held.length cap) (.slice a2 t.wait.length cap2))).put 29 (grCells g))
  simp only [World.size_alloc, List.nil_append, List.cons_append] at h1
  have HS0 : Hid (Hp w [.ob w.heap.size 25 (tbCells (.slice a t.held.length cap) (.slice a2 t.wait.length cap2)), .ob (w.heap.size + 1) 29 (grCells g)] ((w.alloc (.cells (tbCells (.slice a t.held.length cap) (.slice a2 t.wait.length cap2)).toArray 25)).alloc (.cells (grCells g).toArray 29))) := h1
  clear h1 ht hR hg hk hh hnc hcm hnc2 hcm2
  obtain ⟨fsHUG, huHUG⟩ := under_gr
  have HUG := Lib.hid huHUG
  clear huHUG
  obtain ⟨fsHUT, huHUT⟩ := under_tb
  have HUT := Lib.hid huHUT
  clear huHUT
  generalize idxR (passB t.held g) t.wait = ix at *
  obtain ⟨wp, hwp⟩ : ∃ wp, wplaceR t.held t.wait g = wp := ⟨_, rfl⟩
  rw [hwp] at HWp ⊢
  clear hwp
  generalize decide (0 < modeG t.held g) = up at *
  go_enter Try.func48, Try.ntmps48
  go_upto_region 1 with (fail)
  generalize ((w.alloc (.cells (tbCells (.slice a t.held.length cap) (.slice a2 t.wait.length cap2)).toArray 25)).alloc (.cells (grCells g).toArray 29)) = w1 at *
  generalize hb3 : w.heap.size + 1 = b3 at *
  have b1 : w1.cell? ⟨w.heap.size, 1, none⟩ = some (.slice a2 t.wait.length cap2) := HS0.out.at 0 rfl 1 rfl
  go_wp2_with fail
  have hrd : RdIn w1 [(b3, 0, grCells g), (w.heap.size, 0, tbCells (.slice a t.held.length cap) (.slice a2 t.wait.length cap2))] := fun r hr => by
    rcases List.mem_cons.1 hr with rfl | hr
    · exact ⟨(HS0.out.lt 1 rfl rfl).2, fun j v hv => by rw [Nat.zero_add]; exact HS0.out.at 1 rfl j hv⟩
    · obtain rfl := List.mem_singleton.1 hr
      exact ⟨(HS0.out.lt 0 rfl rfl).2, fun j v hv => by rw [Nat.zero_add]; exact HS0.out.at 0 rfl j hv⟩
  refine (HIx.out _ _ _ HS0.out.old hrd).mono ?_
  rintro e w2 ⟨rfl, hb⟩
  have HS1 := Lib.hid (HS0.out.calls hb)
  clear hb hrd HIx b1 HS0
  have b0 : w2.cell? ⟨w.heap.size, 0, none⟩ = some (.slice a t.held.length cap) := HS1.out.at 0 rfl 0 rfl
  have b1 : w2.cell? ⟨w.heap.size, 1, none⟩ = some (.slice a2 t.wait.length cap2) := HS1.out.at 0 rfl 1 rfl
  rcases HWp.out with ⟨hix, hwp⟩ | ⟨k, hk, hix, hwp⟩
  · subst hix
    have HX := Lib.hid hwp
    clear hwp HWp HUp
    go_wp2_with fail
    go_ret
    exact ⟨by rw [HX.out]; rfl, HS1.out.old⟩
  · subst hix
    have HX := Lib.hid hwp
    have hk0 : (0 : Int) ≤ (k : Int) := by omega
    clear hwp HWp hk
    go_wp2_with (first | ((with_reducible refine wpList_load_ob_w 29 (.tmp 3) b3 (grCells g) 29 HUG.out ?_ ?_ ?_ ?_ ?_ ?_); (exact rfl); (exact rfl); (exact HS1.out.get 1 rfl); (exact rfl); (exact info_gr); simp only [Act.put, List.setIfInBounds_toArray, List.set_cons_zero, List.set_cons_succ]))
    refine (HUp.out _ HS1.out.old).mono ?_
    rintro e w3 ⟨rfl, hb⟩
    have HS2 := Lib.hid (HS1.out.calls hb)
    clear hb HUp b0 b1 HS1
    have b0 : w3.cell? ⟨w.heap.size, 0, none⟩ = some (.slice a t.held.length cap) := HS2.out.at 0 rfl 0 rfl
    have b1 : w3.cell? ⟨w.heap.size, 1, none⟩ = some (.slice a2 t.wait.length cap2) := HS2.out.at 0 rfl 1 rfl
    cases up
    · have HX2 : Hid (wp = t.wait.length) := Lib.hid (by
        have h := HUd.out
        have h0 : modeG t.held g = 0 := by simpa using h
        rw [HX.out, if_pos h0])
      go_wp2_with fail
      go_ret
      exact ⟨by rw [HX2.out]; rfl, HS2.out.old⟩
    · have HX2 : Hid (wp = k) := Lib.hid (by
        have h := HUd.out
        have h0 : ¬ modeG t.held g = 0 := by simpa using h
        rw [HX.out, if_neg h0])
      go_wp2_with fail
      go_ret
      exact ⟨by rw [HX2.out]; rfl, HS2.out.old⟩
end Go.Proofs.Ytooaldglgkjjgaa
/- rows of whole elements that are written in place -/
namespace Go.Proofs.Ytooaldglgkjjgaa
open Go.RowKit
set_option maxRecDepth 20000
set_option linter.unusedSimpArgs false
set_option linter.unusedVariables false

theorem run_inj {a b : World} (h : (Result.ok () a : Result Unit) = .ok () b) : a = b := by injection h
theorem setCells_row {W : World} {g o : Nat} {cs cur : List Value} {t : TypeId} (hg : W.heap[g]? = some (.cells cur.toArray t (0, 0))) (hfit : o + cs.length ≤ cur.length) (h1 : ∀ v ∈ cs, v.oneCell' = true) :
    W.setCells g o cs = W.setRow g (splice cur o cs).toArray := by
  have a := run_storeCells_at Try.prog g o t cs 0 cur.toArray W hg (by simpa using hfit) h1
  have b := run_storeCells_cells (P := Try.prog) g o cs 0 W (fun j hj => by
    rw [Nat.add_zero, cell_of_row W g (o + j) _ _ _ hg, List.getElem?_toArray, List.getElem?_eq_getElem (by omega)]; rfl) (fun j hj => frozen_of_row _ _ _ _ _ hg) h1
  rw [a] at b
  simp only [Nat.add_zero] at b
  rw [← run_inj b]
  unfold splice
  rw [List.append_assoc]
theorem grown_setRow (W : World) (g : Nat) (cs : Array Value) : W.grownBy (W.setRow g cs) (some g) := ⟨rfl, rfl, rfl, by simp [World.setRow], fun k hk hne => setRow_other W g k cs (fun e => hne (by rw [e]))⟩
theorem grown_trans {a b c : World} {r : Option Nat} (h : a.grownBy b r) (k : b.grownBy c r) : a.grownBy c r := ⟨k.os.trans h.os, k.tape.trans h.tape, k.output.trans h.output, Nat.le_trans h.size k.size, fun i hi hne => (k.block i (Nat.lt_of_lt_of_le hi h.size) hne).trans (h.block i hi hne)⟩
theorem grown_below {a b : World} {r : Option Nat} (h : Below a.heap.size a b) : a.grownBy b r := ⟨h.os, h.tape, h.output, h.size, fun k hk _ => h.block k hk⟩
theorem grown_then {a b c : World} {r : Option Nat} (h : a.grownBy b r) (k : Below b.heap.size b c) : a.grownBy c r := grown_trans h (grown_below k)
section
variable {α : Type} {enc : α → List Value} {z : Nat}
def encRow (enc : α → List Value) (ys : List α) : List Value := ys.flatMap enc
theorem encRow_len (hz : ∀ x, (enc x).length = z) : ∀ ys : List α, (encRow enc ys).length = ys.length * z
  | [] => by simp [encRow]
  | y :: l => by
    show (enc y ++ encRow enc l).length = _
    rw [List.length_append, hz, encRow_len hz l, List.length_cons, Nat.add_mul]; omega
theorem encRow_append (a b : List α) : encRow enc (a ++ b) = encRow enc a ++ encRow enc b := List.flatMap_append
theorem encRow_at (hz : ∀ x, (enc x).length = z) (rest : List Value) {ys : List α} {k : Nat} (h : k < ys.length) : ∀ j v, (enc ys[k])[j]? = some v → (encRow enc ys ++ rest)[k * z + j]? = some v := by
  intro j v hv
  have hj := (List.getElem?_eq_some_iff.1 hv).1
  rw [hz] at hj
  have e : ys = ys.take k ++ (ys[k] :: ys.drop (k + 1)) := by rw [List.getElem_cons_drop, List.take_append_drop]
  have e2 : encRow enc ys = encRow enc (ys.take k) ++ (enc ys[k] ++ encRow enc (ys.drop (k + 1))) := by
    conv => lhs; rw [e]
    rw [encRow_append]
    rfl
  have l1 : (encRow enc (ys.take k)).length = k * z := by rw [encRow_len hz, List.length_take, Nat.min_eq_left (by omega)]
  rw [e2, List.append_assoc, List.getElem?_append_right (by omega), l1, Nat.add_sub_cancel_left, List.append_assoc, List.getElem?_append_left (by rw [hz]; exact hj)]
  exact hv
theorem encRow_set (hz : ∀ x, (enc x).length = z) (rest : List Value) {ys : List α} {k : Nat} (h : k < ys.length) (y : α) : splice (encRow enc ys ++ rest) (k * z) (enc y) = encRow enc (ys.set k y) ++ rest := by
  have e : ys = ys.take k ++ (ys[k] :: ys.drop (k + 1)) := by rw [List.getElem_cons_drop, List.take_append_drop]
  have e2 : encRow enc ys = encRow enc (ys.take k) ++ (enc ys[k] ++ encRow enc (ys.drop (k + 1))) := by
    conv => lhs; rw [e]
    rw [encRow_append]
    rfl
  have e3 : encRow enc (ys.set k y) = encRow enc (ys.take k) ++ (enc y ++ encRow enc (ys.drop (k + 1))) := by
    rw [List.set_eq_take_append_cons_drop, if_pos h, encRow_append]
    rfl
  have l1 : (encRow enc (ys.take k)).length = k * z := by rw [encRow_len hz, List.length_take, Nat.min_eq_left (by omega)]
  unfold splice
  rw [e2, e3, hz, List.append_assoc, List.take_append_of_le_length (by omega), List.take_of_length_le (by omega), List.drop_append, l1, List.drop_of_length_le (by omega), List.nil_append, Nat.add_sub_cancel_left, List.append_assoc, List.drop_append, hz, List.drop_of_length_le (by rw [hz]; omega), List.nil_append, Nat.sub_self, List.drop_zero, List.append_assoc, List.append_assoc]
theorem encRow_clear (hz : ∀ x, (enc x).length = z) (rest : List Value) {ys : List α} {i : Nat} (h : i ≤ ys.length) (zr : α) : splice (encRow enc ys ++ rest) (i * z) (encRow enc (List.replicate (ys.length - i) zr)) = encRow enc (ys.take i ++ List.replicate (ys.length - i) zr) ++ rest := by
  have e2 : encRow enc ys = encRow enc (ys.take i) ++ encRow enc (ys.drop i) := by rw [← encRow_append, List.take_append_drop]
  have l1 : (encRow enc (ys.take i)).length = i * z := by rw [encRow_len hz, List.length_take, Nat.min_eq_left h]
  have l2 : (encRow enc (ys.drop i)).length = (ys.length - i) * z := by rw [encRow_len hz, List.length_drop]
  have l3 : (encRow enc (List.replicate (ys.length - i) zr)).length = (ys.length - i) * z := by rw [encRow_len hz, List.length_replicate]
  unfold splice
  rw [encRow_append, e2, l3, List.append_assoc, List.take_append_of_le_length (by omega), List.take_of_length_le (by omega), List.drop_append, l1, List.drop_of_length_le (by omega), List.nil_append, Nat.add_sub_cancel_left, List.drop_append, l2, List.drop_of_length_le (by omega), List.nil_append, Nat.sub_self, List.drop_zero, List.append_assoc]
/-- what a search that strikes elements has done so far -/
structure KeptR (p : α → Bool) (l : List α) (j i : Nat) (ys : List α) : Prop where
  len : ys.length = l.length
  num : i = ((l.take j).filter fun x => !p x).length
  low : ys.take i = (l.take j).filter fun x => !p x
  high : ys.drop j = l.drop j
  lt : i < j
theorem KeptR.start {p : α → Bool} {l : List α} {k : Nat} (hk : k < l.length) (hb : (l.take k).all (fun x => !p x) = true) (hx : p l[k] = true) : KeptR p l (k + 1) k l := by
  have e : (l.take (k + 1)).filter (fun x => !p x) = l.take k := by
    rw [List.take_succ_eq_append_getElem hk, List.filter_append, List.filter_eq_self.2 (List.all_eq_true.1 hb)]
    simp [hx]
  exact ⟨rfl, by rw [e, List.length_take]; omega, e.symm, rfl, Nat.lt_succ_self _⟩
theorem KeptR.at {p : α → Bool} {l : List α} {j i : Nat} {ys : List α} (h : KeptR p l j i ys) (hj : j < l.length) : ys[j]'(by rw [h.len]; exact hj) = l[j] := by
  have := congrArg (fun m => m[0]?) h.high
  simp only [List.getElem?_drop, Nat.add_zero] at this
  rw [List.getElem?_eq_getElem (by rw [h.len]; exact hj), List.getElem?_eq_getElem hj] at this
  exact Option.some.inj this
theorem KeptR.keep {p : α → Bool} {l : List α} {j i : Nat} {ys : List α} (h : KeptR p l j i ys) (hj : j < l.length) (hx : p l[j] = false) : KeptR p l (j + 1) (i + 1) (ys.set i l[j]) := by
  have e : (l.take (j + 1)).filter (fun x => !p x) = (l.take j).filter (fun x => !p x) ++ [l[j]] := by
    rw [List.take_succ_eq_append_getElem hj, List.filter_append]
    simp [hx]
  have hlt := h.lt
  have hlen := h.len
  refine ⟨by rw [List.length_set]; exact hlen, by rw [e, List.length_append, ← h.num]; rfl, ?_, ?_, by omega⟩
  · rw [e, ← h.low, List.take_succ_eq_append_getElem (by rw [List.length_set]; omega), List.getElem_set_self]
    congr 1
    rw [List.take_set_of_le (Nat.le_refl _)]
  · rw [List.drop_set_of_lt (by omega)]
    have := congrArg (List.drop 1) h.high
    rw [List.drop_drop, List.drop_drop] at this
    exact this
theorem KeptR.skip {p : α → Bool} {l : List α} {j i : Nat} {ys : List α} (h : KeptR p l j i ys) (hj : j < l.length) (hx : p l[j] = true) : KeptR p l (j + 1) i ys := by
  have e : (l.take (j + 1)).filter (fun x => !p x) = (l.take j).filter (fun x => !p x) := by
    rw [List.take_succ_eq_append_getElem hj, List.filter_append]
    simp [hx]
  have hlt := h.lt
  refine ⟨h.len, by rw [e]; exact h.num, by rw [e]; exact h.low, ?_, by omega⟩
  have := congrArg (List.drop 1) h.high
  rw [List.drop_drop, List.drop_drop] at this
  exact this
theorem KeptR.done {p : α → Bool} {l : List α} {i : Nat} {ys : List α} (h : KeptR p l l.length i ys) : ys.take i = l.filter (fun x => !p x) ∧ i = (l.filter fun x => !p x).length := by
  have h1 := h.low
  have h2 := h.num
  rw [List.take_length] at h1 h2
  exact ⟨h1, h2⟩
end
/-- a slice of its own, opened: its block's row -/
theorem own_open {α : Type} {enc : α → List Value} {z : Nat} (hz : ∀ x, (enc x).length = z) {B : Nat} {W : World} {e : TypeId} {n : Nat} {l : List α} {v : Value} (h : W.ownsRow B e z v n (encRow enc l)) (hn : n = l.length) (h0 : 0 < z) :
    (v = .slice none 0 0 ∧ l = []) ∨ ∃ g cap rest, v = .slice (some ⟨g, 0, none⟩) l.length cap ∧ B ≤ g ∧ W.heap[g]? = some (.cells (encRow enc l ++ rest).toArray e (0, 0)) ∧ l.length ≤ cap ∧ cap ≤ maxLen ∧ (encRow enc l ++ rest).length = cap * z := by
  subst hn
  rcases h.2 with ⟨hv, h1⟩ | ⟨g, cap, cur, hv, hB, hg, h1, h2, h3, h4⟩
  · exact .inl ⟨hv, List.eq_nil_of_length_eq_zero h1⟩
  · refine .inr ⟨g, cap, cur.toList.drop (l.length * z), hv, hB, ?_, h1, h2, ?_⟩
    · rw [hg, ← h4, List.take_append_drop]
    · rw [← h4, List.take_append_drop]; simpa using h3
theorem own_close {α : Type} {enc : α → List Value} {z : Nat} (hz : ∀ x, (enc x).length = z) {B : Nat} {W : World} {e : TypeId} {g cap : Nat} {l m : List α} {rest : List Value} (hB : B ≤ g) (hg : W.heap[g]? = some (.cells (encRow enc (l ++ m) ++ rest).toArray e (0, 0))) (h1 : l.length ≤ cap) (h2 : cap ≤ maxLen) (h3 : (encRow enc (l ++ m) ++ rest).length = cap * z) :
    W.ownsRow B e z (.slice (some ⟨g, 0, none⟩) l.length cap) l.length (encRow enc l) := by
  refine ⟨encRow_len hz l, .inr ⟨g, cap, _, rfl, hB, hg, h1, h2, by simpa using h3, ?_⟩⟩
  rw [encRow_append, List.append_assoc]
  rw [← encRow_len hz l]
  simp
theorem zero_row {α : Type} {enc : α → List Value} {z : Nat} (hz : ∀ x, (enc x).length = z) (h0 : 0 < z) (zr : α) (zv : Value) (hv : zv.cells.toList = enc zr) (n : Nat) : (Builtin.zeroCells zv.cells n).toList = encRow enc (List.replicate n zr) := by
  have hs : zv.cells.size = z := by rw [← Array.length_toList, hv, hz]
  apply List.ext_getElem
  · rw [encRow_len hz, List.length_replicate]
    simp [Builtin.zeroCells, hs]
  · intro i h1 h2
    rw [encRow_len hz, List.length_replicate] at h2
    have hk : i / z < n := Nat.div_lt_of_lt_mul (by rw [Nat.mul_comm]; exact h2)
    have hm : i % z < z := Nat.mod_lt _ h0
    have hat := encRow_at hz [] (ys := List.replicate n zr) (k := i / z) (by rw [List.length_replicate]; exact hk) (i % z) _ (List.getElem?_eq_getElem (by rw [hz]; exact hm))
    rw [List.append_nil, show i / z * z + i % z = i from by rw [Nat.mul_comm]; exact Nat.div_add_mod i z] at hat
    have e1 := (List.getElem?_eq_some_iff.1 hat).2
    rw [e1]
    simp only [List.getElem_replicate]
    simp only [Builtin.zeroCells, Array.toList_map, List.getElem_map, Array.getElem_toList, Array.getElem_range, hs]
    rw [getElem!_pos zv.cells (i % z) (by rw [hs]; exact hm)]
    have e2 : zv.cells.toList[i % z]'(by rw [Array.length_toList, hs]; exact hm) = (enc zr)[i % z]'(by rw [hz]; exact hm) := by
      simp only [hv]
    rw [← e2, Array.getElem_toList]
/-- what is cleared -/
theorem run_clear_row {α : Type} {enc : α → List Value} {z : Nat} (hz : ∀ x, (enc x).length = z) (h0 : 0 < z) {t e : TypeId} (ht : Try.prog.underlying t = some (.slice e)) (zr : α) (zv : Value) (hv : zv.cells.toList = enc zr) (hzv : ∀ W, (zeroValue e).run Try.prog W = .ok zv W) (W : World) {g i : Nat} {ys : List α} {rest : List Value} (hg : W.heap[g]? = some (.cells (encRow enc ys ++ rest).toArray e (0, 0))) (hi : i < ys.length)
    (h1 : ∀ v ∈ enc zr, v.oneCell' = true) (ty : TypeId) (c : Nat) :
    (Builtin.clear_ #[t] ty #[.slice (some ⟨g, i * z, none⟩) (ys.length - i) c]).run Try.prog W = .ok (.tuple #[]) (W.setRow g (encRow enc (ys.take i ++ List.replicate (ys.length - i) zr) ++ rest).toArray) := by
  have hlen : i * z + (encRow enc (List.replicate (ys.length - i) zr)).length ≤ (encRow enc ys ++ rest).length := by
    rw [encRow_len hz, List.length_replicate, List.length_append, encRow_len hz, ← Nat.add_mul, show i + (ys.length - i) = ys.length from by omega]
    omega
  have hone : ∀ v ∈ encRow enc (List.replicate (ys.length - i) zr), v.oneCell' = true := fun v hv' => by
    obtain ⟨x, hx, hxv⟩ := List.mem_flatMap.1 hv'
    rw [List.eq_of_mem_replicate hx] at hxv
    exact h1 v hxv
  have hst := run_storeCells_at Try.prog g (i * z) e (encRow enc (List.replicate (ys.length - i) zr)) 0 _ W hg (by simpa using hlen) hone
  rw [← encRow_clear hz rest (Nat.le_of_lt hi) zr]
  have hs : ∀ (l : List Value) (o : Nat) (cs : List Value), l.take o ++ cs ++ l.drop (o + cs.length) = splice l o cs := fun l o cs => by unfold splice; rw [List.append_assoc]
  simp only [Nat.add_zero, hs] at hst
  obtain ⟨m, hm⟩ : ∃ m, ys.length - i = m + 1 := ⟨ys.length - i - 1, by omega⟩
  have hzr := zero_row hz h0 zr zv hv (ys.length - i)
  rw [hm] at hst hzr ⊢
  simp [Builtin.clear_, run_underlying ht, hzv, hzr, hst]
theorem row_src {W : World} {g : Nat} {cur cs : List Value} {t : TypeId} (h : W.heap[g]? = some (.cells cur.toArray t (0, 0))) (o : Nat) (hc : ∀ j u, cs[j]? = some u → cur[o + j]? = some u) : ∀ j u, cs[j]? = some u → W.cell? ((⟨g, o, none⟩ : Addr).add j) = some u := fun j u hj => by
  rw [Addr.add_mid, cell_of_row W g (o + j) _ _ _ h, List.getElem?_toArray]
  exact hc j u hj
theorem grRow_enc (l : List Gr) : grRow l = encRow grCells l := rfl
theorem grCells_len (x : Gr) : (grCells x).length = 4 := rfl
end Go.Proofs.Ytooaldglgkjjgaa
/- the library's DeleteFunc over grants -/
namespace Go.Proofs.Ytooaldglgkjjgaa
open Go.RowKit
set_option maxRecDepth 20000
set_option linter.unusedSimpArgs false
set_option linter.unusedVariables false

theorem zeroV_gr (W : World) : (zeroValue 29).run Try.prog W = .ok (.agg (grCells grNil).toArray) W := by kernel_rfl
theorem one_grl (x : Gr) : ∀ u ∈ grCells x, u.oneCell' = true := by
  intro u hu
  simp only [grCells, List.mem_cons, List.not_mem_nil, or_false] at hu
  rcases hu with rfl | rfl | rfl | rfl <;> rfl
/-- a function of a fault that answers the same whatever block g holds -/
def GrFnX (gn : Nat) (lb : Array Value) (p : Gr → Bool) (l : List Gr) (g : Option Nat) (w : World) : Prop :=
  ∀ W x, x ∈ l → w.grownBy W g → Calls Try.prog gn (#[.agg (grCells x).toArray] ++ lb) W fun e w' => e = .returned (.bool (p x)) ∧ Below W.heap.size W w'
set_option maxHeartbeats 8000000 in
theorem delGr_row (gn : Nat) (lb : Array Value) (q : Gr → Bool) (l : List Gr) (g cap : Nat) (rest : List Value) (w : World) (eg : EntersF gn) (hp : GrFnX gn lb q l (some g) w) (hl : l.length ≤ 200000) (hcap : l.length ≤ cap) (hcm : cap ≤ maxLen)
    (hg : w.heap[g]? = some (.cells (encRow grCells l ++ rest).toArray 29 (0, 0))) :
    Calls Try.prog 68 #[.slice (some ⟨g, 0, none⟩) l.length cap, .func (.func gn) #[] lb] w fun e w' => e = .returned (.slice (some ⟨g, 0, none⟩) (l.filter fun x => !q x).length cap) ∧
      (∃ m : List Gr, (l.filter (fun x => !q x) ++ m).length = l.length ∧ w'.heap[g]? = some (.cells (encRow grCells (l.filter (fun x => !q x) ++ m) ++ rest).toArray 29 (0, 0))) ∧ w.grownBy w' (some g) := by
  have hlt0 : g < w.heap.size := (Array.getElem?_eq_some_iff.1 hg).1
  have HRow : Hid (∀ (W : World) (ys : List Gr), W.heap[g]? = some (.cells (encRow grCells ys ++ rest).toArray 29 (0, 0)) → ∀ k (h : k < ys.length), W.rangeAt g (k * 4) (grCells ys[k])) := fun W ys hW k h j u hj => by
    rw [cell_of_row W g (k * 4 + j) _ _ _ hW, List.getElem?_toArray]
    exact encRow_at grCells_len rest h j u hj
  have hIx : Calls Try.prog 59 #[.slice (some ⟨g, 0, none⟩) l.length cap, .func (.func gn) #[] lb] w fun e w' => e = .returned (.int .i64 (idxR q l)) ∧ Below w.heap.size w w' :=
    idxGr_any gn lb q l _ [(g, 0, grRow l)] w eg (fun W x hx hb => hp W x hx (grown_below hb)) ⟨_, cap, rfl, encRow_len grCells_len l, hcap, hcm, fun _ => ⟨g, 0, rfl, List.mem_singleton.2 rfl⟩, fun h => by cases h⟩ (fun r hr => by
      obtain rfl := List.mem_singleton.1 hr
      refine ⟨hlt0, fun j u hj => ?_⟩
      have hj' : (encRow grCells l)[j]? = some u := hj
      show w.cell? ⟨g, 0 + j, none⟩ = some u
      rw [cell_of_row w g (0 + j) _ _ _ hg, List.getElem?_toArray, Nat.zero_add, List.getElem?_append_left (List.getElem?_eq_some_iff.1 hj').1]
      exact hj') hl
  have HP := Lib.hid hp
  have HG0 := Lib.hid hg
  have HC : Hid (l.length ≤ cap ∧ cap ≤ maxLen ∧ l.length ≤ 200000 ∧ g < w.heap.size) := ⟨hcap, hcm, hl, hlt0⟩
  obtain ⟨fs, huf⟩ := under_gr
  have HUF := Lib.hid huf
  clear hp hg hcap hcm hl huf hlt0
  unfold EntersF at eg
  by_cases hr : idxR q l = -1
  · have hall := idxR_neg hr
    rw [hr] at hIx
    have HF : Hid (l.filter (fun x => !q x) = l) := List.filter_eq_self.2 (List.all_eq_true.1 hall)
    clear hr hall
    go_enter Try.func68, Try.ntmps68
    go_wp2_with fail
    refine hIx.mono ?_
    rintro e w2 ⟨rfl, hb⟩
    have HB := Lib.hid hb
    clear hb hIx
    go_wp2_with fail
    go_ret
    refine ⟨by rw [HF.out]; rfl, ⟨[], by rw [HF.out, List.append_nil], ?_⟩, grown_below HB.out⟩
    rw [HF.out, List.append_nil]
    exact (HB.out.block _ HC.out.2.2.2).trans HG0.out
  · obtain ⟨k0, hk0, e0, hall, hx⟩ := idxR_pos hr
    have HK0 := Lib.hid (KeptR.start hk0 hall hx)
    have HK1 := Lib.hid hk0
    rw [e0] at hIx
    clear hr e0 hall hx
    have hk01 : ((k0 : Int) == -1) = false := by rw [beq_eq_false_iff_ne]; omega
    have hk0m : (k0 : Int) < 200001 := by have := HC.out; omega
    clear hk0
    go_enter Try.func68, Try.ntmps68
    go_wp2_with fail
    refine hIx.mono ?_
    rintro e w2 ⟨rfl, hb⟩
    have HB : Hid (w.grownBy w2 (some g) ∧ w2.heap[g]? = some (.cells (encRow grCells l ++ rest).toArray 29 (0, 0))) := ⟨grown_below hb, (hb.block _ HC.out.2.2.2).trans HG0.out⟩
    clear hb hIx
    go_wp2_with fail
    go_loopw [5, 6] (fun si sj wr => ∃ (i j : Nat) (ys : List Gr), si = .int .i64 i ∧ sj = .int .i64 j ∧ j ≤ l.length ∧ KeptR q l j i ys ∧ w.grownBy wr (some g) ∧ wr.heap[g]? = some (.cells (encRow grCells ys ++ rest).toArray 29 (0, 0))) (fun _ sj _ => l.length - (intOf sj).toNat)
    case atStart => exact ⟨k0, k0 + 1, l, rfl, by go_num, HK1.out, HK0.out, HB.out.1, HB.out.2⟩
    case round =>
      clear hk01 hk0m
      obtain ⟨i, j, ys, rfl, rfl, hj, hk, hgb, hgr⟩ := hrel
      have HK := Lib.hid hk
      have HGb := Lib.hid hgb
      have HGr := Lib.hid hgr
      clear hk hgb hgr HB
      by_cases hlt : j < l.length
      · have hji : (j : Int) < (l.length : Int) := by omega
        have hj0 : (0 : Int) ≤ (j : Int) := by omega
        have hjm : (j : Int) < 200000 := by have := HC.out; omega
        have hi0 : (0 : Int) ≤ (i : Int) := by omega
        have hil : (i : Int) < (l.length : Int) := by have := HK.out.lt; omega
        have him : (i : Int) < 200000 := by have := HK.out.lt; omega
        obtain ⟨x, hxe⟩ : ∃ x, l[j] = x := ⟨_, rfl⟩
        have HXe := Lib.hid hxe
        have hylen := HK.out.len
        have hjy : j < ys.length := by omega
        have HMid : Hid (wr.rangeAt g (j * 4) (grCells x)) := by
          have h := HRow.out wr ys HGr.out j hjy
          rw [HK.out.at hlt, hxe] at h
          exact h
        have hlw : g < wr.heap.size := Nat.lt_of_lt_of_le HC.out.2.2.2 HGb.out.size
        have HW1 : Hid (Below wr.heap.size wr ((wr.alloc (.cells (grCells grNil).toArray 29)).setRow wr.heap.size (grCells x).toArray)) := below_setRow ((Below.refl _ _).alloc (Nat.le_refl _) _) (Nat.le_refl _) _
        have HV1 : Hid (((wr.alloc (.cells (grCells grNil).toArray 29)).setRow wr.heap.size (grCells x).toArray).heap[wr.heap.size]? = some (.cells (grCells x).toArray 29 (0, 0))) := setRow_heap _ _ _ _ _ _ (heap_alloc_last wr _)
        have HSz1 : Hid (wr.heap.size < ((wr.alloc (.cells (grCells grNil).toArray 29)).setRow wr.heap.size (grCells x).toArray).heap.size) := (Array.getElem?_eq_some_iff.1 HV1.out).1
        have hcall := HP.out _ x (by rw [← hxe]; exact List.getElem_mem hlt) (grown_then HGb.out HW1.out)
        have HYes := Lib.hid (fun h : q x = false => HK.out.keep hlt (by rw [hxe]; exact h))
        have HNo := Lib.hid (fun h : q x = true => HK.out.skip hlt (by rw [hxe]; exact h))
        have HILt : Hid (i < ys.length) := by show _ < _; have := HK.out.lt; omega
        clear hxe hylen hjy hj
        go_wp2_with (first | ((with_reducible refine wpList_load_at 29 (.tmp 24) g (j * 4) (grCells x) HUF.out ?_ ?_ ?_ ?_ ?_); (exact rfl); (exact HMid.out); (exact rfl); (exact info_gr); simp only [Act.put, List.setIfInBounds_toArray, List.set_cons_zero, List.set_cons_succ]) | ((with_reducible refine wpList_alloc_ob 29 (grCells grNil) ?_ ?_); (exact alloc_gr); simp only [Act.put, List.setIfInBounds_toArray, List.set_cons_zero, List.set_cons_succ]) | ((with_reducible refine wpList_store_ob 29 (.tmp 7) wr.heap.size (grCells x) (grCells grNil) 29 ?_ ?_ ?_ ?_ ?_ ?_ ?_); (exact rfl); (exact rfl); (exact heap_alloc_last wr _); (exact info_gr); (exact rfl); (exact oneCell_gr _); skip) | ((with_reducible refine wpList_load_ob 29 (.tmp 7) wr.heap.size (grCells x) 29 HUF.out ?_ ?_ ?_ ?_ ?_); (exact rfl); (exact HV1.out); (exact rfl); (exact info_gr); simp only [Act.put, List.setIfInBounds_toArray, List.set_cons_zero, List.set_cons_succ]))
        refine hcall.mono ?_
        rintro e w3 ⟨rfl, hb⟩
        have HB3 : Hid (w.grownBy w3 (some g)) := grown_then (grown_then HGb.out HW1.out) hb
        have HG3 : Hid (w3.heap[g]? = some (.cells (encRow grCells ys ++ rest).toArray 29 (0, 0))) := ((hb.block g (Nat.lt_trans hlw HSz1.out)).trans (HW1.out.block g hlw)).trans HGr.out
        have HV3 : Hid (w3.heap[wr.heap.size]? = some (.cells (grCells x).toArray 29 (0, 0))) := (hb.block _ HSz1.out).trans HV1.out
        clear hb hcall HW1 HV1 HSz1 HGb HGr HMid hlw
        generalize wr.heap.size = bx at *
        cases hq : q x
        · have HK2 := Lib.hid (HYes.out hq)
          have HTh : Hid (w3.there g (i * 4) (grCells x).toArray.size) := fun t ht => by
            have ht6 : t < 4 := ht
            refine ⟨?_, frozen_of_row _ _ _ _ _ HG3.out⟩
            have h := HRow.out w3 ys HG3.out i HILt.out t _ (List.getElem?_eq_getElem (by rw [grCells_len]; exact ht6))
            rw [h]; rfl
          have HW4 : Hid (w3.setCells g (i * 4) (grCells x).toArray.toList = w3.setRow g (encRow grCells (ys.set i x) ++ rest).toArray) := by
            show _ = _
            rw [show (grCells x).toArray.toList = grCells x from rfl, setCells_row HG3.out (by
              rw [List.length_append, encRow_len grCells_len, grCells_len]
              have := HILt.out
              have h6 : i * 4 + 4 ≤ ys.length * 4 := by omega
              omega) (one_grl x), encRow_set grCells_len rest HILt.out]
          clear HYes HNo
          go_wp2_with (first | ((with_reducible refine wpList_load_ob 29 (.tmp 7) bx (grCells x) 29 HUF.out ?_ ?_ ?_ ?_ ?_); (exact rfl); (exact HV3.out); (exact rfl); (exact info_gr); simp only [Act.put, List.setIfInBounds_toArray, List.set_cons_zero, List.set_cons_succ]) | ((with_reducible refine wpList_store_mid rfl 29 (.tmp 33) (.tmp 32) rfl g (i * 4) (grCells x).toArray ?_ ?_ ?_ ?_ ?_ ?_); (exact rfl); (exact rfl); (exact HTh.out); (exact info_gr); (exact oneCell_gr _); skip))
          go_roundw
          case rel => exact ⟨i + 1, j + 1, ys.set i x, by go_num, by go_num, by omega, by rw [← HXe.out]; exact (by have h := HK2.out; rw [HXe.out] at h ⊢; exact h), by rw [HW4.out]; exact grown_trans HB3.out (grown_setRow _ _ _), by rw [HW4.out]; exact setRow_heap _ _ _ _ _ _ HG3.out⟩
          case measure => simp [intOf]; omega
        · have HK2 := Lib.hid (HNo.out hq)
          clear HYes HNo
          go_wp2_with fail
          go_roundw
          case rel => exact ⟨i, j + 1, ys, rfl, by go_num, by omega, HK2.out, HB3.out, HG3.out⟩
          case measure => simp [intOf]; omega
      · obtain rfl : j = l.length := by omega
        have hilt : i < l.length := HK.out.lt
        have hic : ¬ (cap = i) := by have := HC.out; omega
        have hil : (i : Int) ≤ (l.length : Int) := by omega
        have hi0 : (0 : Int) ≤ (i : Int) := by omega
        have hcl0 : (i : Int) ≤ (cap : Int) := by have := HC.out; omega
        have hcl := fun ty c => run_clear_row (t := 23) grCells_len (by decide) Try.underlying23 grNil (.agg (grCells grNil).toArray) rfl zeroV_gr wr HGr.out (i := i) (by rw [HK.out.len]; exact hilt) (one_grl _) ty c
        rw [HK.out.len] at hcl
        clear hlt
        go_wp2_with fail
        go_ret
        obtain ⟨h1, h2⟩ := HK.out.done
        refine ⟨by rw [← h2]; rfl, ⟨List.replicate (l.length - i) grNil, ?_, ?_⟩, grown_trans HGb.out (grown_setRow _ _ _)⟩
        · rw [List.length_append, ← h2, List.length_replicate]; omega
        · rw [← h1]; exact setRow_heap _ _ _ _ _ _ HGr.out
set_option maxHeartbeats 4000000 in
theorem delGr_own (gn : Nat) (lb : Array Value) (q : Gr → Bool) (l : List Gr) (v : Value) (B0 : Nat) (w : World) (eg : EntersF gn) (own : w.ownsRow B0 29 4 v l.length (grRow l)) (hp : GrFnX gn lb q l v.ownBlock w) (hl : l.length ≤ 200000) :
    Calls Try.prog 68 #[v, .func (.func gn) #[] lb] w fun e w' => ∃ v', e = .returned v' ∧ w'.ownsRow B0 29 4 v' (l.filter fun x => !q x).length (grRow (l.filter fun x => !q x)) ∧ w.grownBy w' v.ownBlock ∧ v'.ownBlock = v.ownBlock := by
  have own' := own
  rw [grRow_enc] at own'
  rcases own_open grCells_len own' rfl (by decide) with ⟨rfl, rfl⟩ | ⟨g, cap, rest, rfl, hB, hg, h1, h2, h3⟩
  · have hIx := idxGr_any gn lb q [] (.slice none 0 0) [] w eg (fun W x hx => by cases hx) (SlRd.nil 4 []) (RdIn.nil w) (by simp)
    have e0 : idxR q ([] : List Gr) = -1 := idxR_none rfl
    rw [e0] at hIx
    clear own own' hp hl e0
    go_enter Try.func68, Try.ntmps68
    go_wp2_with fail
    refine hIx.mono ?_
    rintro e w2 ⟨rfl, hb⟩
    clear hIx
    have HB := Lib.hid hb
    clear hb
    go_wp2_with fail
    go_ret
    exact ⟨_, rfl, ⟨by simp [grRow], .inl ⟨rfl, by simp⟩⟩, grown_below HB.out, rfl⟩
  · refine (delGr_row gn lb q l g cap rest w eg hp hl h1 h2 hg).mono ?_
    rintro e w2 ⟨rfl, ⟨m, hm1, hm2⟩, hgr⟩
    refine ⟨_, rfl, ?_, hgr, rfl⟩
    rw [grRow_enc]
    refine own_close grCells_len hB hm2 (Nat.le_trans (List.length_filter_le _ _) h1) h2 ?_
    rw [List.length_append, encRow_len grCells_len, hm1]
    rw [List.length_append, encRow_len grCells_len] at h3
    exact h3
end Go.Proofs.Ytooaldglgkjjgaa
