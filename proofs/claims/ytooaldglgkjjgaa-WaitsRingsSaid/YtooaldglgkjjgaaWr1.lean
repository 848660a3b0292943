/- texts of a claim, one after the other: numbers as bytes, texts, and small facts on conversions: no walk, lock tables as values, what the functions of chapter 8 answer, and what follows of it, what the functions of chapter 8 leave: valid tables, in which everyone who waits is kept waiting; again and again is once, the choices of the drawing package: what Next gives lies in its range, and nothing but the place in the codes is changed, small things about memory that all texts use, whether two cells are equal, as the program compares them, objects in memory, and what a walk keeps of them, what a walk keeps of memory: objects, slices of its own, choices; what was there is as it was, a slice that reads as these cells; what reads is appended to a slice of the walk's own, grants, locks and lock tables as values of the program, the small functions on grants: the order, conflicts, validity, what is held in which mode (the reference, chapter 8), when a table is valid, grant by grant, parts of a list of grants read; what is read, put together, the reference's settle, the reference's Mode, Waiting, place and Same, what reads, its spare cut off, is appended to: the whole is new, the reference's Request, the program's small functions on grants: comparing, the order, conflicts, validity, what finds grants (locks), the program's order of grants (locks), the program's order, conflicts, validity, and what finds grants (locks), the library's searches through grants, by whatever function that reads, and in the order of what is held; what the program makes of them (locks), the program's place, mode, holders, upgrade (locks) -/
import Derived.Test.YtooaldglgkjjgaaRows
import Derived.WalkKit
import Derived.WalkSpells
import Derived.WalkLawsBesides
import Derived.Lib.Hide
import Derived.Below
import Derived.LoopN
import Derived.ProofKit
import Derived.OpenShut
import Derived.RegionTactic
import Derived.ChangeAlike
import Derived.Deep.QuietTactic
import Derived.BigQuiet
import Derived.Deep.MidRow
import Derived.Deep.OwnRows
import Derived.Laws.CopyOwn
import Derived.KernelRfl
import Derived.DeepKeys
import Derived.Deep.RegionHeld3
import Derived.Deep.WholeRow
import Derived.Laws.ResultCell
import Derived.BigRegion
import Derived.Deep.RegionWith
import Derived.Maps.AppendAt
import Derived.Deep.DeepCutAuto
import Derived.Great.BuildSlice
import Derived.Deep.CutBlock
import Derived.ArgAppend
import Derived.Shelf.Abstract
/- numbers as bytes, texts, and small facts on conversions: no walk -/
namespace Go.Proofs.Ytooaldglgkjjgaa
open Go.ChangeShapes Go.WideShapes Go.ChangeAt Go.RowKit

theorem w64 (n : Int) : IntKind.i64.wrap n = wrap64 n := by rw [IntKind.wrap_i64]; unfold wrap64; rfl
end Go.Proofs.Ytooaldglgkjjgaa
/- lock tables as values, what the functions of chapter 8 answer, and what follows of it -/
namespace Go.Proofs.Ytooaldglgkjjgaa
set_option maxRecDepth 20000

structure Gr where
  tx : Int
  page : Int
  slot : Int
  mode : Int
structure Tb where
  held : List Gr
  wait : List Gr
def grNil : Gr := ⟨0, 0, 0, 0⟩
def tbNil : Tb := ⟨[], []⟩
theorem Gr.ext' {a b : Gr} (h1 : a.tx = b.tx) (h2 : a.page = b.page) (h3 : a.slot = b.slot) (h4 : a.mode = b.mode) : a = b := by
  cases a; cases b; simp_all
def grEqB (a b : Gr) : Bool := decide (a.tx = b.tx) && (decide (a.page = b.page) && (decide (a.slot = b.slot) && decide (a.mode = b.mode)))
theorem grEqB_iff {a b : Gr} : grEqB a b = true ↔ a = b := by
  unfold grEqB
  simp only [Bool.and_eq_true, decide_eq_true_eq]
  exact ⟨fun h => Gr.ext' h.1 h.2.1 h.2.2.1 h.2.2.2, fun h => by subst h; exact ⟨rfl, rfl, rfl, rfl⟩⟩
def keyB (x : Gr) (tx page slot : Int) : Bool := decide (x.tx = tx) && (decide (x.page = page) && decide (x.slot = slot))
theorem keyB_iff {x : Gr} {tx p s : Int} : keyB x tx p s = true ↔ x.tx = tx ∧ x.page = p ∧ x.slot = s := by
  unfold keyB; simp only [Bool.and_eq_true, decide_eq_true_eq]
def ltB (a b : Gr) : Bool := decide (a.page < b.page) || (decide (a.page = b.page) && (decide (a.slot < b.slot) || (decide (a.slot = b.slot) && decide (a.tx < b.tx))))
def GLt (a b : Gr) : Prop := a.page < b.page ∨ (a.page = b.page ∧ (a.slot < b.slot ∨ (a.slot = b.slot ∧ a.tx < b.tx)))
theorem ltB_iff {a b : Gr} : ltB a b = true ↔ GLt a b := by
  unfold ltB GLt; simp only [Bool.and_eq_true, Bool.or_eq_true, decide_eq_true_eq]
def confB (a b : Gr) : Bool := !decide (a.tx = b.tx) && (decide (a.page = b.page) && (decide (a.slot = b.slot) && (decide (a.mode = 2) || decide (b.mode = 2))))
def Conf (a b : Gr) : Prop := a.tx ≠ b.tx ∧ a.page = b.page ∧ a.slot = b.slot ∧ (a.mode = 2 ∨ b.mode = 2)
theorem confB_iff {a b : Gr} : confB a b = true ↔ Conf a b := by
  unfold confB Conf; simp only [Bool.and_eq_true, Bool.or_eq_true, Bool.not_eq_true', decide_eq_true_eq, decide_eq_false_iff_not, ne_eq]
theorem Conf.symm {a b : Gr} (h : Conf a b) : Conf b a := ⟨fun e => h.1 e.symm, h.2.1.symm, h.2.2.1.symm, h.2.2.2.symm⟩
def grOkB (g : Gr) : Bool := decide (1 ≤ g.tx) && (decide (g.tx ≤ 1073741824) && (decide (0 ≤ g.page) && (decide (g.page < 64) && (decide (0 ≤ g.slot) && (decide (g.slot < 16) && (decide (g.mode = 1) || decide (g.mode = 2)))))))
def GrOk (g : Gr) : Prop := (1 ≤ g.tx ∧ g.tx ≤ 1073741824) ∧ (0 ≤ g.page ∧ g.page < 64) ∧ (0 ≤ g.slot ∧ g.slot < 16) ∧ (g.mode = 1 ∨ g.mode = 2)
theorem grOkB_iff {g : Gr} : grOkB g = true ↔ GrOk g := by
  unfold grOkB GrOk; simp only [Bool.and_eq_true, Bool.or_eq_true, decide_eq_true_eq]
  constructor
  · intro h; exact ⟨⟨h.1, h.2.1⟩, ⟨h.2.2.1, h.2.2.2.1⟩, ⟨h.2.2.2.2.1, h.2.2.2.2.2.1⟩, h.2.2.2.2.2.2⟩
  · intro h; exact ⟨h.1.1, h.1.2, h.2.1.1, h.2.1.2, h.2.2.1.1, h.2.2.1.2, h.2.2.2⟩
theorem GLt.irrefl {a : Gr} (h : GLt a a) : False := by unfold GLt at h; omega
theorem GLt.trans {a b c : Gr} (h : GLt a b) (k : GLt b c) : GLt a c := by unfold GLt at *; omega
theorem GLt.asymm {a b : Gr} (h : GLt a b) (k : GLt b a) : False := (h.trans k).irrefl
theorem glt_tri (a b : Gr) : GLt a b ∨ GLt b a ∨ (a.tx = b.tx ∧ a.page = b.page ∧ a.slot = b.slot) := by unfold GLt; omega

def findK (l : List Gr) (tx p s : Int) : Option Gr := l.find? (fun x => keyB x tx p s)
def modeR (l : List Gr) (tx p s : Int) : Int := (findK l tx p s).elim 0 Gr.mode
abbrev modeG (l : List Gr) (g : Gr) : Int := modeR l g.tx g.page g.slot
def wfind (l : List Gr) (tx : Int) : Option Gr := l.find? (fun x => decide (x.tx = tx))
structure HeldOk (h : List Gr) : Prop where
  ok : ∀ g ∈ h, GrOk g
  up : h.Pairwise GLt
  free : h.Pairwise (fun a b => ¬ Conf a b)
structure WaitOk (h l : List Gr) : Prop where
  ok : ∀ g ∈ l, GrOk g ∧ modeG h g < g.mode
  one : l.Pairwise (fun a b => a.tx ≠ b.tx)
structure TbIn (t : Tb) : Prop where
  held : HeldOk t.held
  wait : WaitOk t.held t.wait
structure TbOk (t : Tb) : Prop where
  few : t.held.length + t.wait.length ≤ 1024
  tin : TbIn t
noncomputable def tbOkB (t : Tb) : Bool := @decide (TbOk t) (Classical.propDecidable _)
theorem tbOkB_iff {t : Tb} : tbOkB t = true ↔ TbOk t := @decide_eq_true_iff _ (Classical.propDecidable _)
def holdR (l : List Gr) (g : Gr) : List Gr := l.filter (fun x => ltB x g) ++ g :: l.filter (fun x => ltB g x)
def ableB (h k : List Gr) (g : Gr) : Bool := h.all (fun x => !confB x g) && k.all (fun x => !confB x g)
def Able (h k : List Gr) (g : Gr) : Prop := (∀ x ∈ h, ¬ Conf x g) ∧ ∀ x ∈ k, ¬ Conf x g
theorem ableB_iff {h k : List Gr} {g : Gr} : ableB h k g = true ↔ Able h k g := by
  unfold ableB Able
  simp only [Bool.and_eq_true, List.all_eq_true, Bool.not_eq_true', ← confB_iff, Bool.not_eq_true]
theorem ableB_false {h k : List Gr} {g : Gr} : ableB h k g = false ↔ ¬ Able h k g := by
  rw [← ableB_iff]; cases ableB h k g <;> simp
def stepS (s : Tb) (g : Gr) : Tb := if ableB s.held s.wait g = true then ⟨holdR s.held g, s.wait⟩ else ⟨s.held, s.wait ++ [g]⟩
theorem stepS_pos {s : Tb} {g : Gr} (h : Able s.held s.wait g) : stepS s g = ⟨holdR s.held g, s.wait⟩ := if_pos (ableB_iff.2 h)
theorem stepS_neg {s : Tb} {g : Gr} (h : ¬ Able s.held s.wait g) : stepS s g = ⟨s.held, s.wait ++ [g]⟩ := if_neg (by rw [ableB_iff]; exact h)
def settleR (t : Tb) : Tb := t.wait.foldl stepS ⟨t.held, []⟩
def Stuck (h l : List Gr) : Prop := ∀ a g b, l = a ++ g :: b → ¬ Able h a g

theorem findK_cons (x : Gr) (l : List Gr) (tx p s : Int) : findK (x :: l) tx p s = if keyB x tx p s = true then some x else findK l tx p s := by
  unfold findK; rw [List.find?_cons]; cases keyB x tx p s <;> rfl
theorem findK_some {l : List Gr} {tx p s : Int} {x : Gr} (h : findK l tx p s = some x) : x ∈ l ∧ x.tx = tx ∧ x.page = p ∧ x.slot = s :=
  ⟨List.mem_of_find?_eq_some h, keyB_iff.1 (List.find?_some (p := fun x => keyB x tx p s) h)⟩
theorem findK_mem {l : List Gr} (hl : l.Pairwise GLt) {x : Gr} (hx : x ∈ l) : findK l x.tx x.page x.slot = some x := by
  induction l with
  | nil => cases hx
  | cons y l ih =>
    rw [findK_cons]
    rw [List.pairwise_cons] at hl
    rcases List.mem_cons.1 hx with rfl | hx'
    · rw [if_pos (keyB_iff.2 ⟨rfl, rfl, rfl⟩)]
    · have h1 := hl.1 x hx'
      rw [if_neg, ih hl.2 hx']
      intro h
      have := keyB_iff.1 h
      unfold GLt at h1; omega
theorem modeG_mem {l : List Gr} (hl : l.Pairwise GLt) {x : Gr} (hx : x ∈ l) : modeG l x = x.mode := by
  unfold modeG modeR; rw [findK_mem hl hx]; rfl
theorem modeR_ge {l : List Gr} (hl : ∀ g ∈ l, GrOk g) (tx p s : Int) : modeR l tx p s = 0 ∨ modeR l tx p s = 1 ∨ modeR l tx p s = 2 := by
  unfold modeR
  cases h : findK l tx p s with
  | none => exact .inl rfl
  | some x => exact .inr (hl x (findK_some h).1).2.2.2
theorem mem_hold {l : List Gr} {g x : Gr} (h : x ∈ holdR l g) : x = g ∨ x ∈ l := by
  unfold holdR at h
  simp only [List.mem_append, List.mem_cons, List.mem_filter] at h
  rcases h with h | h | h
  · exact .inr h.1
  · exact .inl h
  · exact .inr h.1
theorem mem_hold_self (l : List Gr) (g : Gr) : g ∈ holdR l g := by unfold holdR; simp
theorem mem_hold_of {l : List Gr} {g x : Gr} (h : x ∈ l) (hk : ¬ (x.tx = g.tx ∧ x.page = g.page ∧ x.slot = g.slot)) : x ∈ holdR l g := by
  unfold holdR
  simp only [List.mem_append, List.mem_cons, List.mem_filter, ltB_iff]
  rcases glt_tri x g with h1 | h1 | h1
  · exact .inl ⟨h, h1⟩
  · exact .inr (.inr ⟨h, h1⟩)
  · exact absurd h1 hk
theorem hold_ok {l : List Gr} {g : Gr} (h : HeldOk l) (hg : GrOk g) (hc : ∀ x ∈ l, ¬ Conf x g) : HeldOk (holdR l g) := by
  refine ⟨fun x hx => (mem_hold hx).elim (fun e => e ▸ hg) (h.ok x), ?_, ?_⟩
  · unfold holdR
    rw [List.pairwise_append, List.pairwise_cons]
    refine ⟨h.up.filter _, ⟨fun x hx => ltB_iff.1 (List.mem_filter.1 hx).2, h.up.filter _⟩, fun x hx y hy => ?_⟩
    have h1 := ltB_iff.1 (List.mem_filter.1 hx).2
    rcases List.mem_cons.1 hy with rfl | hy
    · exact h1
    · exact h1.trans (ltB_iff.1 (List.mem_filter.1 hy).2)
  · unfold holdR
    have hf := h.free
    rw [List.pairwise_append, List.pairwise_cons]
    refine ⟨hf.filter _, ⟨fun x hx hcf => hc x (List.mem_filter.1 hx).1 hcf.symm, hf.filter _⟩, fun x hx y hy hcf => ?_⟩
    rcases List.mem_cons.1 hy with rfl | hy
    · exact hc x (List.mem_filter.1 hx).1 hcf
    · have h1 := ltB_iff.1 (List.mem_filter.1 hx).2
      have h2 := ltB_iff.1 (List.mem_filter.1 hy).2
      have h3 := (List.mem_filter.1 hx).1
      have h4 := (List.mem_filter.1 hy).1
      -- both lie in l, apart
      have key : ∀ (m : List Gr), m.Pairwise (fun a b => ¬ Conf a b) → x ∈ m → y ∈ m → x ≠ y → ¬ Conf x y := by
        intro m hm
        induction m with
        | nil => intro h; cases h
        | cons z m ih =>
          rw [List.pairwise_cons] at hm
          intro hx hy hne hcf
          rcases List.mem_cons.1 hx with rfl | hx
          · rcases List.mem_cons.1 hy with rfl | hy
            · exact hne rfl
            · exact hm.1 y hy hcf
          · rcases List.mem_cons.1 hy with rfl | hy
            · exact hm.1 x (by assumption) hcf.symm
            · exact ih hm.2 (by assumption) hy hne hcf
      exact key l hf h3 h4 (fun e => by subst e; exact h1.asymm h2) hcf
theorem find_filter2 (p q : Gr → Bool) (l : List Gr) : (l.filter p).find? q = l.find? (fun a => p a && q a) := by
  rw [List.find?_filter]
  congr 1; funext a
  cases p a <;> cases q a <;> rfl
theorem findK_hold {l : List Gr} {g : Gr} (tx p s : Int) : findK (holdR l g) tx p s = if g.tx = tx ∧ g.page = p ∧ g.slot = s then some g else findK l tx p s := by
  unfold findK holdR
  rw [List.find?_append, List.find?_cons, find_filter2, find_filter2]
  by_cases hk : g.tx = tx ∧ g.page = p ∧ g.slot = s
  · rw [if_pos hk, keyB_iff.2 hk]
    have : List.find? (fun a => ltB a g && keyB a tx p s) l = none := by
      rw [List.find?_eq_none]
      intro x _ hx
      simp only [Bool.and_eq_true, ltB_iff, keyB_iff] at hx
      unfold GLt at hx; omega
    rw [this]; rfl
  · rw [if_neg hk]
    have hkb : keyB g tx p s = false := by
      cases h : keyB g tx p s with
      | false => rfl
      | true => exact absurd (keyB_iff.1 h) hk
    rw [hkb]
    rcases glt_tri ⟨tx, p, s, 0⟩ g with h1 | h1 | h1
    · have e1 : List.find? (fun a => ltB a g && keyB a tx p s) l = List.find? (fun a => keyB a tx p s) l := by
        congr 1; funext a
        cases h : keyB a tx p s with
        | false => rw [Bool.and_false]
        | true =>
          rw [Bool.and_true, ltB_iff]
          have := keyB_iff.1 h
          unfold GLt at h1 ⊢; simp only at h1; omega
      have e2 : List.find? (fun a => ltB g a && keyB a tx p s) l = none := by
        rw [List.find?_eq_none]
        intro x _ hx
        simp only [Bool.and_eq_true, ltB_iff, keyB_iff] at hx
        unfold GLt at h1 hx; simp only at h1; omega
      rw [e1]; simp only [e2]; cases List.find? (fun a => keyB a tx p s) l <;> rfl
    · have e1 : List.find? (fun a => ltB g a && keyB a tx p s) l = List.find? (fun a => keyB a tx p s) l := by
        congr 1; funext a
        cases h : keyB a tx p s with
        | false => rw [Bool.and_false]
        | true =>
          rw [Bool.and_true, ltB_iff]
          have := keyB_iff.1 h
          unfold GLt at h1 ⊢; simp only at h1; omega
      have e2 : List.find? (fun a => ltB a g && keyB a tx p s) l = none := by
        rw [List.find?_eq_none]
        intro x _ hx
        simp only [Bool.and_eq_true, ltB_iff, keyB_iff] at hx
        unfold GLt at h1 hx; simp only at h1; omega
      rw [e2]; simp only [e1]; rfl
    · exact absurd ⟨h1.1.symm, h1.2.1.symm, h1.2.2.symm⟩ hk
theorem modeR_hold {l : List Gr} {g : Gr} (tx p s : Int) : modeR (holdR l g) tx p s = if g.tx = tx ∧ g.page = p ∧ g.slot = s then g.mode else modeR l tx p s := by
  unfold modeR; rw [findK_hold]; split <;> rfl
theorem hold_len (l : List Gr) (g : Gr) : (holdR l g).length ≤ l.length + 1 := by
  unfold holdR
  rw [List.length_append, List.length_cons]
  have : ∀ m : List Gr, (m.filter (fun x => ltB x g)).length + (m.filter (fun x => ltB g x)).length ≤ m.length := by
    intro m
    induction m with
    | nil => simp
    | cons x m ih =>
      rw [List.filter_cons, List.filter_cons, List.length_cons]
      cases h1 : ltB x g <;> cases h2 : ltB g x
      · simp; omega
      · simp; omega
      · simp; omega
      · exact absurd (ltB_iff.1 h2) (fun h => (ltB_iff.1 h1).asymm h)
  have := this l
  omega

theorem TbIn.mode_lt {h a b : List Gr} {g : Gr} (ht : TbIn ⟨h, a ++ g :: b⟩) : GrOk g ∧ modeG h g < g.mode := ht.wait.ok g (by simp)
theorem conf_hold {h a b : List Gr} {g w x : Gr} (ht : TbIn ⟨h, a ++ g :: b⟩) (hwt : w.tx ≠ g.tx) (hx : x ∈ h) (hc : Conf x w) : ∃ y ∈ holdR h g, Conf y w := by
  by_cases hk : x.tx = g.tx ∧ x.page = g.page ∧ x.slot = g.slot
  · obtain ⟨hg, hm⟩ := ht.mode_lt
    have h1 : modeG h g = x.mode := by
      show modeR h g.tx g.page g.slot = _
      rw [← hk.1, ← hk.2.1, ← hk.2.2]; exact modeG_mem ht.held.up hx
    have h2 := (ht.held.ok x hx).2.2.2
    refine ⟨g, mem_hold_self h g, fun e => hwt e.symm, by rw [← hk.2.1]; exact hc.2.1, by rw [← hk.2.2]; exact hc.2.2.1, ?_⟩
    have h3 := hc.2.2.2
    have h4 := hg.2.2.2
    omega
  · exact ⟨x, mem_hold_of hx hk, hc⟩
theorem stuck_hold {h a b : List Gr} {g : Gr} (ht : TbIn ⟨h, a ++ g :: b⟩) (hs : Stuck h a) : Stuck (holdR h g) a := by
  intro c w d e hab
  refine hs c w d e ⟨fun x hx hc => ?_, hab.2⟩
  have hwt : w.tx ≠ g.tx := by
    have := (List.pairwise_append.1 ht.wait.one).2.2 w (by rw [e]; simp) g (by simp)
    exact this
  obtain ⟨y, hy, hcy⟩ := conf_hold ht hwt hx hc
  exact hab.1 y hy hcy
theorem in_move {h a b : List Gr} {g : Gr} (ht : TbIn ⟨h, a ++ g :: b⟩) (hab : Able h a g) : TbIn ⟨holdR h g, a ++ b⟩ := by
  obtain ⟨hg, hm⟩ := ht.mode_lt
  refine ⟨hold_ok ht.held hg hab.1, fun w hw => ?_, ?_⟩
  · have hw' : w ∈ a ++ g :: b := by
      rcases List.mem_append.1 hw with h | h
      · exact List.mem_append.2 (.inl h)
      · exact List.mem_append.2 (.inr (List.mem_cons_of_mem _ h))
    obtain ⟨h1, h2⟩ := ht.wait.ok w hw'
    refine ⟨h1, ?_⟩
    show modeR (holdR h g) w.tx w.page w.slot < w.mode
    rw [modeR_hold, if_neg]
    · exact h2
    · intro he
      have hone := ht.wait.one
      rw [List.pairwise_append, List.pairwise_cons] at hone
      rcases List.mem_append.1 hw with h | h
      · exact hone.2.2 w h g (by simp) he.1.symm
      · exact hone.2.1.1 w h he.1
  · have hone := ht.wait.one
    rw [List.pairwise_append, List.pairwise_cons] at hone
    exact List.pairwise_append.2 ⟨hone.1, hone.2.1.2, fun x hx y hy => hone.2.2 x hx y (List.mem_cons_of_mem _ hy)⟩
theorem stuck_snoc {h a : List Gr} {g : Gr} (hs : Stuck h a) (hn : ¬ Able h a g) : Stuck h (a ++ [g]) := by
  intro c w d e
  rcases List.append_eq_append_iff.1 e with ⟨u, h1, h2⟩ | ⟨u, h1, h2⟩
  · cases u with
    | nil =>
      simp only [List.append_nil] at h1
      simp only [List.nil_append] at h2
      obtain ⟨rfl, -⟩ := List.cons.inj h2
      subst h1
      exact hn
    | cons z u =>
      simp only [List.cons_append, List.cons.injEq] at h2
      exact absurd h2.2 (by simp)
  · cases u with
    | nil =>
      simp only [List.append_nil] at h1
      simp only [List.nil_append] at h2
      obtain ⟨rfl, -⟩ := List.cons.inj h2
      subst h1
      exact hn
    | cons z u =>
      simp only [List.cons_append, List.cons.injEq] at h2
      obtain ⟨rfl, h2⟩ := h2
      exact hs c _ u h1
theorem fold_spec {h a : List Gr} (r : List Gr) (ht : TbIn ⟨h, a ++ r⟩) (hs : Stuck h a) :
    TbIn (r.foldl stepS ⟨h, a⟩) ∧ Stuck (r.foldl stepS ⟨h, a⟩).held (r.foldl stepS ⟨h, a⟩).wait ∧ (r.foldl stepS ⟨h, a⟩).held.length + (r.foldl stepS ⟨h, a⟩).wait.length ≤ h.length + (a.length + r.length) := by
  induction r generalizing h a with
  | nil => rw [List.append_nil] at ht; exact ⟨ht, hs, Nat.le_refl _⟩
  | cons g r ih =>
    rw [List.foldl_cons]
    unfold stepS
    cases hab : ableB h a g with
    | true =>
      rw [if_pos rfl]
      obtain ⟨h1, h2, h3⟩ := ih (in_move ht (ableB_iff.1 hab)) (stuck_hold ht hs)
      refine ⟨h1, h2, ?_⟩
      have := hold_len h g
      rw [List.length_cons]
      exact Nat.le_trans h3 (by omega)
    | false =>
      rw [if_neg (by simp)]
      obtain ⟨h1, h2, h3⟩ := ih (a := a ++ [g]) (by rw [List.append_assoc]; exact ht) (stuck_snoc hs (ableB_false.1 hab))
      refine ⟨h1, h2, ?_⟩
      rw [List.length_append, List.length_singleton] at h3
      rw [List.length_cons]
      exact Nat.le_trans h3 (by omega)
theorem stuck_nil (h : List Gr) : Stuck h [] := by intro a g b e; exact absurd e (by simp)
theorem settle_in {t : Tb} (h : TbIn t) : TbIn (settleR t) := (fold_spec (a := []) t.wait h (stuck_nil _)).1
theorem settle_stuck {t : Tb} (h : TbIn t) : Stuck (settleR t).held (settleR t).wait := (fold_spec (a := []) t.wait h (stuck_nil _)).2.1
theorem settle_len {t : Tb} (h : TbIn t) : (settleR t).held.length + (settleR t).wait.length ≤ t.held.length + t.wait.length := by
  have := (fold_spec (a := []) t.wait h (stuck_nil _)).2.2
  rw [List.length_nil, Nat.zero_add] at this
  exact this
noncomputable def waitR (t : Tb) (tx : Int) : Gr × Bool := if tbOkB t = true then ((wfind t.wait tx).getD grNil, (wfind t.wait tx).isSome) else (grNil, false)
def wplaceR (h l : List Gr) (g : Gr) : Nat :=
  if modeG h g = 0 then l.length else l.findIdx (fun w => decide (w.page = g.page) && (decide (w.slot = g.slot) && decide (modeG h w = 0)))
def addedR (t : Tb) (g : Gr) : Tb := ⟨t.held, t.wait.take (wplaceR t.held t.wait g) ++ g :: t.wait.drop (wplaceR t.held t.wait g)⟩
noncomputable def requestR (t : Tb) (g : Gr) : Tb × Bool × Int :=
  if tbOkB t = false then (tbNil, false, 17)
  else if grOkB g = false then (tbNil, false, 1)
  else if (waitR t g.tx).2 = true then (if grEqB (waitR t g.tx).1 g = true then (t, false, 0) else (tbNil, false, 15))
  else if g.mode ≤ modeG t.held g then (t, true, 0)
  else if t.held.length + t.wait.length = 1024 then (tbNil, false, 21)
  else (settleR (addedR t g), decide (g.mode ≤ modeG (settleR (addedR t g)).held g), 0)
end Go.Proofs.Ytooaldglgkjjgaa
/- what the functions of chapter 8 leave: valid tables, in which everyone who waits is kept waiting; again and again is once -/
namespace Go.Proofs.Ytooaldglgkjjgaa
set_option maxRecDepth 20000

structure Settled (t : Tb) : Prop where
  ok : TbOk t
  stuck : Stuck t.held t.wait
theorem settled_of {t : Tb} (h : TbIn t) (hf : t.held.length + t.wait.length ≤ 1024) : Settled (settleR t) :=
  ⟨⟨Nat.le_trans (settle_len h) hf, settle_in h⟩, settle_stuck h⟩
def tbLen (t : Tb) : Nat := t.held.length + t.wait.length
theorem wfind_some {l : List Gr} {tx : Int} {x : Gr} (h : wfind l tx = some x) : x ∈ l ∧ x.tx = tx :=
  ⟨List.mem_of_find?_eq_some h, by have := List.find?_some (p := fun x : Gr => decide (x.tx = tx)) h; simpa using this⟩
theorem wfind_none {l : List Gr} {tx : Int} (h : wfind l tx = none) : ∀ x ∈ l, x.tx ≠ tx := by
  intro x hx hk
  have := List.find?_eq_none.1 h x hx
  simp [hk] at this
theorem wfind_none_of {l : List Gr} {tx : Int} (h : ∀ x ∈ l, x.tx ≠ tx) : wfind l tx = none := by
  unfold wfind; rw [List.find?_eq_none]; intro x hx; simpa using h x hx
theorem wfind_mem {l : List Gr} (hl : l.Pairwise (fun a b => a.tx ≠ b.tx)) {x : Gr} (hx : x ∈ l) : wfind l x.tx = some x := by
  induction l with
  | nil => cases hx
  | cons y l ih =>
    rw [List.pairwise_cons] at hl
    unfold wfind; rw [List.find?_cons]
    rcases List.mem_cons.1 hx with rfl | hx'
    · simp
    · rw [decide_eq_false (hl.1 x hx')]; exact ih hl.2 hx'
theorem waitR_of {t : Tb} (h : TbOk t) (tx : Int) : waitR t tx = ((wfind t.wait tx).getD grNil, (wfind t.wait tx).isSome) := by
  unfold waitR; rw [if_pos (tbOkB_iff.2 h)]
theorem added_in {t : Tb} {g : Gr} (h : TbOk t) (hg : GrOk g) (hw : ∀ x ∈ t.wait, x.tx ≠ g.tx) (hm : modeG t.held g < g.mode) : TbIn (addedR t g) := by
  refine ⟨h.tin.held, fun w hw' => ?_, ?_⟩
  · have hw' : w ∈ t.wait.take (wplaceR t.held t.wait g) ++ g :: t.wait.drop (wplaceR t.held t.wait g) := hw'
    rcases List.mem_append.1 hw' with h1 | h1
    · exact h.tin.wait.ok w (List.mem_of_mem_take h1)
    · rcases List.mem_cons.1 h1 with rfl | h1
      · exact ⟨hg, hm⟩
      · exact h.tin.wait.ok w (List.mem_of_mem_drop h1)
  · show (t.wait.take (wplaceR t.held t.wait g) ++ g :: t.wait.drop (wplaceR t.held t.wait g)).Pairwise _
    have ho := h.tin.wait.one
    have ho2 := ho
    rw [← List.take_append_drop (wplaceR t.held t.wait g) t.wait, List.pairwise_append] at ho2
    rw [List.pairwise_append, List.pairwise_cons]
    refine ⟨ho2.1, ⟨fun x hx e => hw x (List.mem_of_mem_drop hx) e.symm, ho2.2.1⟩, fun x hx y hy => ?_⟩
    rcases List.mem_cons.1 hy with rfl | hy
    · exact hw x (List.mem_of_mem_take hx)
    · exact ho2.2.2 x hx y hy
theorem added_len (t : Tb) (g : Gr) : (addedR t g).held.length + (addedR t g).wait.length = t.held.length + t.wait.length + 1 := by
  show t.held.length + (t.wait.take (wplaceR t.held t.wait g) ++ g :: t.wait.drop (wplaceR t.held t.wait g)).length = _
  rw [List.length_append, List.length_cons, List.length_take, List.length_drop]; omega
/-- the ways in which a request is granted or waits -/
theorem request_cases {t : Tb} {g : Gr} (h : TbOk t) (hr : (requestR t g).2.2 = 0) :
    GrOk g ∧ ((wfind t.wait g.tx = some g ∧ requestR t g = (t, false, 0)) ∨ ((∀ x ∈ t.wait, x.tx ≠ g.tx) ∧ g.mode ≤ modeG t.held g ∧ requestR t g = (t, true, 0)) ∨
      ((∀ x ∈ t.wait, x.tx ≠ g.tx) ∧ modeG t.held g < g.mode ∧ TbIn (addedR t g) ∧ (addedR t g).held.length + (addedR t g).wait.length ≤ 1024 ∧ requestR t g = (settleR (addedR t g), decide (g.mode ≤ modeG (settleR (addedR t g)).held g), 0))) := by
  have hb : tbOkB t = true := tbOkB_iff.2 h
  have hd : requestR t g = if tbOkB t = false then (tbNil, false, 17)
    else if grOkB g = false then (tbNil, false, 1)
    else if (waitR t g.tx).2 = true then (if grEqB (waitR t g.tx).1 g = true then (t, false, 0) else (tbNil, false, 15))
    else if g.mode ≤ modeG t.held g then (t, true, 0)
    else if t.held.length + t.wait.length = 1024 then (tbNil, false, 21)
    else (settleR (addedR t g), decide (g.mode ≤ modeG (settleR (addedR t g)).held g), 0) := rfl
  rw [hb, if_neg (by decide)] at hd
  rw [hd] at hr ⊢
  cases hg : grOkB g with
  | false => rw [hg, if_pos rfl] at hr; exact absurd hr (by decide)
  | true =>
    have hgo := grOkB_iff.1 hg
    refine ⟨hgo, ?_⟩
    rw [hg, if_neg (by decide), waitR_of h] at hr
    rw [if_neg (by decide), waitR_of h]
    cases hw : wfind t.wait g.tx with
    | some w =>
      rw [hw] at hr
      simp only [Option.isSome_some, if_true, Option.getD_some] at hr ⊢
      rcases Classical.em (grEqB w g = true) with he | he
      · obtain rfl := grEqB_iff.1 he; exact .inl ⟨rfl, by rw [if_pos he]⟩
      · rw [if_neg he] at hr; exact absurd hr (by decide)
    | none =>
      have hno := wfind_none hw
      rw [hw] at hr
      simp only [Option.isSome_none, Bool.false_eq_true, if_false] at hr ⊢
      refine .inr ?_
      by_cases hm : g.mode ≤ modeG t.held g
      · exact .inl ⟨hno, hm, by rw [if_pos hm]⟩
      · rw [if_neg hm] at hr ⊢
        by_cases hl : t.held.length + t.wait.length = 1024
        · rw [if_pos hl] at hr; exact absurd hr (by decide)
        · rw [if_neg hl]
          exact .inr ⟨hno, by omega, added_in h hgo hno (by omega), by have := added_len t g; have := h.few; omega, rfl⟩
theorem request_ok {t : Tb} {g : Gr} (h : TbOk t) (hr : (requestR t g).2.2 = 0) :
    TbOk (requestR t g).1 ∧ (Stuck t.held t.wait → Stuck (requestR t g).1.held (requestR t g).1.wait) ∧ (requestR t g).2.1 = decide (g.mode ≤ modeG (requestR t g).1.held g) ∧ tbLen (requestR t g).1 ≤ tbLen t + 1 := by
  obtain ⟨hg, ⟨hw, e⟩ | ⟨hno, hm, e⟩ | ⟨hno, hm, hi, hl, e⟩⟩ := request_cases h hr
  · rw [e]
    refine ⟨h, id, ?_, Nat.le_succ _⟩
    have := (h.tin.wait.ok g (wfind_some hw).1).2
    exact (decide_eq_false (by show ¬ g.mode ≤ modeG t.held g; omega)).symm
  · rw [e]; exact ⟨h, id, (decide_eq_true hm).symm, Nat.le_succ _⟩
  · rw [e]
    have := settled_of hi hl
    have h2 := settle_len hi
    rw [added_len] at h2
    exact ⟨this.ok, fun _ => this.stuck, rfl, h2⟩
theorem fold_keeps {x : Gr} {h a : List Gr} (r : List Gr) (hx : (x ∈ a ∨ x ∈ r) ∨ (modeG h x = x.mode ∧ (∀ y ∈ a, y.tx ≠ x.tx) ∧ ∀ y ∈ r, y.tx ≠ x.tx)) (hone : (a ++ r).Pairwise (fun a b => a.tx ≠ b.tx)) :
    x ∈ (r.foldl stepS ⟨h, a⟩).wait ∨ modeG (r.foldl stepS ⟨h, a⟩).held x = x.mode := by
  induction r generalizing h a with
  | nil =>
    rcases hx with (h1 | h1) | h1
    · exact .inl h1
    · cases h1
    · exact .inr h1.1
  | cons g r ih =>
    rw [List.foldl_cons]
    rw [List.pairwise_append, List.pairwise_cons] at hone
    unfold stepS
    split
    · refine ih ?_ (List.pairwise_append.2 ⟨hone.1, hone.2.1.2, fun x hx y hy => hone.2.2 x hx y (List.mem_cons_of_mem _ hy)⟩)
      rcases hx with (h1 | h1) | h1
      · exact .inl (.inl h1)
      · rcases List.mem_cons.1 h1 with rfl | h1
        · refine .inr ⟨?_, fun y hy => hone.2.2 y hy x (by simp), fun y hy e => hone.2.1.1 y hy e.symm⟩
          show modeR _ _ _ _ = _
          rw [modeR_hold, if_pos ⟨rfl, rfl, rfl⟩]
        · exact .inl (.inr h1)
      · refine .inr ⟨?_, h1.2.1, fun y hy => h1.2.2 y (List.mem_cons_of_mem _ hy)⟩
        show modeR _ _ _ _ = _
        rw [modeR_hold, if_neg (fun e => h1.2.2 g (by simp) e.1)]
        exact h1.1
    · refine ih ?_ (by rw [List.append_assoc]; exact List.pairwise_append.2 ⟨hone.1, List.pairwise_cons.2 hone.2.1, hone.2.2⟩)
      rcases hx with (h1 | h1) | h1
      · exact .inl (.inl (List.mem_append.2 (.inl h1)))
      · rcases List.mem_cons.1 h1 with rfl | h1
        · exact .inl (.inl (by simp))
        · exact .inl (.inr h1)
      · refine .inr ⟨h1.1, fun y hy => ?_, fun y hy => h1.2.2 y (List.mem_cons_of_mem _ hy)⟩
        rcases List.mem_append.1 hy with hy | hy
        · exact h1.2.1 y hy
        · exact h1.2.2 y (by rw [List.mem_singleton.1 hy]; simp)
theorem settle_keeps {t : Tb} (h : TbIn t) {x : Gr} (hx : x ∈ t.wait) : x ∈ (settleR t).wait ∨ modeG (settleR t).held x = x.mode :=
  fold_keeps (a := []) t.wait (.inl (.inr hx)) h.wait.one
theorem request_of {t : Tb} {g : Gr} (h : TbOk t) (hg : GrOk g) : requestR t g = if (waitR t g.tx).2 = true then (if grEqB (waitR t g.tx).1 g = true then (t, false, 0) else (tbNil, false, 15))
    else if g.mode ≤ modeG t.held g then (t, true, 0)
    else if t.held.length + t.wait.length = 1024 then (tbNil, false, 21)
    else (settleR (addedR t g), decide (g.mode ≤ modeG (settleR (addedR t g)).held g), 0) := by
  rw [show requestR t g = if tbOkB t = false then (tbNil, false, 17)
    else if grOkB g = false then (tbNil, false, 1)
    else if (waitR t g.tx).2 = true then (if grEqB (waitR t g.tx).1 g = true then (t, false, 0) else (tbNil, false, 15))
    else if g.mode ≤ modeG t.held g then (t, true, 0)
    else if t.held.length + t.wait.length = 1024 then (tbNil, false, 21)
    else (settleR (addedR t g), decide (g.mode ≤ modeG (settleR (addedR t g)).held g), 0) from rfl]
  rw [tbOkB_iff.2 h, grOkB_iff.2 hg, if_neg (by decide), if_neg (by decide)]
end Go.Proofs.Ytooaldglgkjjgaa
/- the choices of the drawing package: what Next gives lies in its range, and nothing but the place in the codes is changed -/
namespace Go.Proofs.Ytooaldglgkjjgaa
open Go.RowKit
set_option maxRecDepth 20000

/-- nothing that was there is changed, but for block C -/
structure Besides (C : Nat) (w w' : World) : Prop where
  os : w'.os = w.os
  tape : w'.tape = w.tape
  output : w'.output = w.output
  size : w.heap.size ≤ w'.heap.size
  block : ∀ k, k < w.heap.size → k ≠ C → w'.heap[k]? = w.heap[k]?
  head : C < w.heap.size → w'.cell? ⟨C, 0, none⟩ = w.cell? ⟨C, 0, none⟩
theorem Besides.refl (C : Nat) (w : World) : Besides C w w := ⟨rfl, rfl, rfl, Nat.le_refl _, fun _ _ _ => rfl, fun _ => rfl⟩
theorem Besides.trans {C : Nat} {a b c : World} (h : Besides C a b) (k : Besides C b c) : Besides C a c :=
  ⟨k.os.trans h.os, k.tape.trans h.tape, k.output.trans h.output, Nat.le_trans h.size k.size, fun i hi hC => (k.block i (Nat.lt_of_lt_of_le hi h.size) hC).trans (h.block i hi hC), fun hC => (k.head (Nat.lt_of_lt_of_le hC h.size)).trans (h.head hC)⟩
theorem Besides.below {C B : Nat} {w w' : World} (h : Besides C w w') (hC : B ≤ C) (hB : B ≤ w.heap.size) : Below B w w' := ⟨h.os, h.tape, h.output, h.size, fun k hk => h.block k (by omega) (by omega)⟩
theorem Besides.cell {C : Nat} {w w' : World} (h : Besides C w w') {p : Addr} (hp : p.block < w.heap.size) (hC : p.block ≠ C) : w'.cell? p = w.cell? p := World.cell?_of_block (h.block p.block hp hC)
theorem Besides.frozen {C : Nat} {w w' : World} (h : Besides C w w') {p : Addr} (hp : p.block < w.heap.size) (hC : p.block ≠ C) : w'.frozen? p = w.frozen? p := World.frozen?_of_block (h.block p.block hp hC)
theorem Besides.drewN {C : Nat} {a w : World} (h : Besides C a w) (n : Nat) : Besides C a (w.drewN n) := ⟨h.os, h.tape, h.output, h.size, h.block, h.head⟩
theorem Besides.drew {C : Nat} {a w : World} (h : Besides C a w) : Besides C a w.drew := ⟨h.os, h.tape, h.output, h.size, h.block, h.head⟩
theorem Besides.alloc {C : Nat} {a w : World} (h : Besides C a w) (o : Obj) : Besides C a (w.alloc o) :=
  h.trans ⟨rfl, rfl, rfl, by simp, fun k hk _ => Below.heap_alloc _ _ _ hk, fun hC => World.cell?_alloc_lt _ _ _ hC⟩
theorem Besides.set {C : Nat} {a w : World} (h : Besides C a w) (j : Nat) (u : Value) (hj : j ≠ 0) : Besides C a (w.setCell ⟨C, j, none⟩ u) :=
  h.trans ⟨rfl, rfl, rfl, by simp [World.setCell], fun k _ hC => Below.heap_setCell _ _ _ _ hC, fun _ => World.cell?_setCell_other _ _ _ _ (fun e => hj (by injection e))⟩
/-- a value of codes lies at block C -/
def CodesAt (w : World) (C : Nat) (a : Option Addr) (len cap : Nat) (i : Int) : Prop :=
  C < w.heap.size ∧ w.cell? ⟨C, 0, none⟩ = some (.slice a len cap) ∧ w.cell? ⟨C, 1, none⟩ = some (.int .i64 i) ∧ w.frozen? ⟨C, 1, none⟩ = false ∧ 0 ≤ i ∧ i ≤ 9223372036854775806 ∧ len ≤ 4611686018427387904
    ∧ (0 < len → ∃ b off, a = some ⟨b, off, none⟩ ∧ b < C ∧ ∀ j, j < len → ∃ z : Int, w.cell? ⟨b, off + j, none⟩ = some (.int .u8 z) ∧ 0 ≤ z ∧ z ≤ 255)
def CodesOk (w : World) (C : Nat) : Prop := ∃ a len cap i, CodesAt w C a len cap i
/-- codes stay codes while their block and older ones stay -/
theorem CodesAt.keep {w w' : World} {C len cap : Nat} {a : Option Addr} {i : Int} (h : CodesAt w C a len cap i) (hs : w.heap.size ≤ w'.heap.size) (hb : ∀ k, k ≤ C → w'.heap[k]? = w.heap[k]?) : CodesAt w' C a len cap i := by
  obtain ⟨h0, h1, h2, h3, h4, h5, h6, h7⟩ := h
  have cell : ∀ (k j : Nat), k ≤ C → w'.cell? ⟨k, j, none⟩ = w.cell? ⟨k, j, none⟩ := fun k j hk => World.cell?_of_block (a := ⟨k, j, none⟩) (hb k hk)
  refine ⟨by omega, by rw [cell C 0 (Nat.le_refl _), h1], by rw [cell C 1 (Nat.le_refl _), h2], by rw [World.frozen?_of_block (a := ⟨C, 1, none⟩) (hb C (Nat.le_refl _)), h3], h4, h5, h6, fun hl => ?_⟩
  obtain ⟨b, off, ha, hbC, hz⟩ := h7 hl
  exact ⟨b, off, ha, hbC, fun j hj => by rw [cell b (off + j) (by omega)]; exact hz j hj⟩
theorem CodesOk.below {w w' : World} {C B : Nat} (h : CodesOk w C) (hb : Below B w w') (hB : C < B) : CodesOk w' C := by
  obtain ⟨a, len, cap, i, h⟩ := h
  exact ⟨a, len, cap, i, h.keep hb.size (fun k hk => hb.block k (by omega))⟩
theorem CodesOk.drewN {w : World} {C : Nat} (h : CodesOk w C) (n : Nat) : CodesOk (w.drewN n) C := by
  obtain ⟨a, len, cap, i, h⟩ := h
  exact ⟨a, len, cap, i, h.keep (Nat.le_refl _) (fun _ _ => rfl)⟩
theorem CodesOk.lt {w : World} {C : Nat} (h : CodesOk w C) : C < w.heap.size := by
  obtain ⟨a, len, cap, i, h⟩ := h
  exact h.1
theorem CodesOk.drew {w : World} {C : Nat} (h : CodesOk w C) : CodesOk w.drew C := by
  obtain ⟨a, len, cap, i, h⟩ := h
  exact ⟨a, len, cap, i, h.keep (Nat.le_refl _) (fun _ _ => rfl)⟩
/-- the place goes on -/
theorem CodesAt.next {w : World} {C len cap : Nat} {a : Option Addr} {i : Int} (h : CodesAt w C a len cap i) (hi : i < len) : CodesOk (w.setCell ⟨C, 1, none⟩ (.int .i64 (i + 1))) C := by
  obtain ⟨h0, h1, h2, h3, h4, h5, h6, h7⟩ := h
  refine ⟨a, len, cap, i + 1, by simpa using h0, ?_, World.cell?_setCell_same w _ _ h2, by rw [World.frozen?_setCell]; exact h3, by omega, by omega, h6, fun hl => ?_⟩
  · rw [World.cell?_setCell_other w _ _ _ (by intro h; cases h)]; exact h1
  · obtain ⟨b, off, ha, hbC, hz⟩ := h7 hl
    refine ⟨b, off, ha, hbC, fun j hj => ?_⟩
    rw [World.cell?_setCell_other w _ _ _ (by intro h; injection h with h1 _ _; omega)]
    exact hz j hj
end Go.Proofs.Ytooaldglgkjjgaa
/- small things about memory that all texts use -/
namespace Go.Proofs.Ytooaldglgkjjgaa
open Go.RowKit
set_option maxRecDepth 20000

theorem ret_bool {a b : Bool} (h : a = b) : Ending.returned (.bool a) = .returned (.bool b) := by rw [h]
theorem heap_alloc_last (w : World) (o : Obj) : (w.alloc o).heap[w.heap.size]? = some o := by
  show (w.heap.push o)[w.heap.size]? = some o
  simp
theorem Besides.then_below {C : Nat} {a w w' : World} (h : Besides C a w) (hb : Below a.heap.size w w') : Besides C a w' :=
  ⟨hb.os.trans h.os, hb.tape.trans h.tape, hb.output.trans h.output, Nat.le_trans h.size hb.size, fun k hk hC => (hb.block k hk).trans (h.block k hk hC), fun hC => (World.cell?_of_block (a := ⟨C, 0, none⟩) (hb.block C hC)).trans (h.head hC)⟩
theorem Besides.setOwn {C B : Nat} {a w : World} (h : Besides C a w) (hB : a.heap.size ≤ B) (j : Nat) (u : Value) : Besides C a (w.setCell ⟨B, j, none⟩ u) :=
  h.then_below ((Below.refl _ _).setCell (p := ⟨B, j, none⟩) hB u)
theorem CodesOk.setOwn {C B : Nat} {w : World} (h : CodesOk w C) (hB : C < B) (j : Nat) (u : Value) : CodesOk (w.setCell ⟨B, j, none⟩ u) C :=
  h.below ((Below.refl B w).setCell (p := ⟨B, j, none⟩) (Nat.le_refl _) u) hB
theorem info_of {t : TypeId} {z : Value} {s b : Nat} (h : (Try.prog.info? t).map (fun i => (i.zero, i.size, i.bytes)) = some (some z, s, b)) : ∃ i, Try.prog.info? t = some i ∧ i.zero = some z ∧ i.size = s ∧ i.bytes = b := by
  cases e : Try.prog.info? t with
  | none => rw [e] at h; cases h
  | some i =>
    rw [e] at h
    simp only [Option.map_some, Option.some.injEq, Prod.mk.injEq] at h
    exact ⟨i, rfl, h.1, h.2.1, h.2.2⟩
end Go.Proofs.Ytooaldglgkjjgaa
/- whether two cells are equal, as the program compares them -/
namespace Go.Proofs.Ytooaldglgkjjgaa
open Go.RowKit

theorem cellsOf_int : Try.prog.cellsOf 3 = 1 := by kernel_rfl
theorem lits_int (d : Nat) (n : Int) (h : (Lit.int .i64 n).wf = true) : Try.prog.keyLits (d + 1) 3 [.int .i64 n] = some [.int .i64 n] := by
  simp [Program.keyLits, Try.underlying3, h]
end Go.Proofs.Ytooaldglgkjjgaa
/- objects in memory, and what a walk keeps of them -/
namespace Go.Proofs.Ytooaldglgkjjgaa
open Go.RowKit
set_option maxRecDepth 20000

/-- an object: a block of cells -/
structure Ob where
  b : Nat
  t : TypeId
  cs : List Value
def Ob.In (o : Ob) (W : World) : Prop := W.heap[o.b]? = some (.cells o.cs.toArray o.t (0, 0))
theorem Ob.In.lt {o : Ob} {W : World} (h : o.In W) : o.b < W.heap.size := (Array.getElem?_eq_some_iff.1 h).1
theorem Ob.In.below {o : Ob} {W W' : World} {B : Nat} (h : o.In W) (hb : Below B W W') (hB : o.b < B) : o.In W' := (hb.block _ hB).trans h
theorem Ob.In.calls {o : Ob} {W W' : World} (h : o.In W) (hb : Below W.heap.size W W') : o.In W' := h.below hb h.lt
theorem Ob.In.cell {o : Ob} {W : World} (h : o.In W) (k : Nat) : W.cell? ⟨o.b, k, none⟩ = o.cs[k]? := by
  rw [cell_of_row W o.b k _ _ _ h, List.getElem?_toArray]
theorem Ob.In.at {o : Ob} {W : World} (h : o.In W) (k : Nat) {v : Value} (hv : o.cs[k]? = some v) : W.cell? ⟨o.b, k, none⟩ = some v := (h.cell k).trans hv
theorem Ob.In.frozen {o : Ob} {W : World} (h : o.In W) (k : Nat) : W.frozen? ⟨o.b, k, none⟩ = false := frozen_of_row _ _ _ _ _ h
theorem Ob.In.range {o : Ob} {W : World} (h : o.In W) (k : Nat) (vs : List Value) (hv : ∀ j v, vs[j]? = some v → o.cs[k + j]? = some v) : W.rangeAt o.b k vs := fun j v e => by
  rw [h.cell, hv j v e]
theorem Ob.In.whole {o : Ob} {W : World} (h : o.In W) : W.rangeAt o.b 0 o.cs := h.range 0 _ (fun j v e => by rw [Nat.zero_add]; exact e)
theorem Ob.In.there {o : Ob} {W : World} (h : o.In W) (k n : Nat) (hn : k + n ≤ o.cs.length) : W.there o.b k n := fun j hj => by
  rw [h.cell, h.frozen, List.getElem?_eq_getElem (by omega)]
  exact ⟨rfl, rfl⟩
theorem Ob.In.set {o : Ob} {W : World} (h : o.In W) (k : Nat) (v : Value) : Ob.In ⟨o.b, o.t, o.cs.set k v⟩ (W.setCell ⟨o.b, k, none⟩ v) := by
  have := heap_setCell_same W o.b k _ _ v h
  rw [List.setIfInBounds_toArray] at this
  exact this
theorem Ob.In.drew {o : Ob} {W : World} (h : o.In W) : o.In W.drew := h

/-- what was there is as it was, and these objects lie in new memory -/
structure Fr (w : World) (L : List Ob) (W : World) : Prop where
  old : Below w.heap.size w W
  obs : ∀ o ∈ L, o.In W
  new : ∀ o ∈ L, w.heap.size ≤ o.b
  nd : L.Pairwise fun o o' => o.b ≠ o'.b
theorem Fr.start (w : World) : Fr w [] w := ⟨Below.refl _ _, by simp, by simp, .nil⟩
theorem Fr.at {w W : World} {L : List Ob} (h : Fr w L W) (i : Nat) {o : Ob} (e : L[i]? = some o) : o.In W := h.obs _ (List.mem_of_getElem? e)
theorem Fr.get {w W : World} {L : List Ob} (h : Fr w L W) (i : Nat) {b : Nat} {t : TypeId} {cs : List Value} (e : L[i]? = some ⟨b, t, cs⟩) : W.heap[b]? = some (.cells cs.toArray t (0, 0)) := h.at i e
theorem Fr.drew {w W : World} {L : List Ob} (h : Fr w L W) : Fr w L W.drew := ⟨h.old.drew, h.obs, h.new, h.nd⟩
theorem Fr.drewN {w W : World} {L : List Ob} (h : Fr w L W) (q : Nat) : Fr w L (W.drewN q) := ⟨⟨h.old.os, h.old.tape, h.old.output, h.old.size, h.old.block⟩, h.obs, h.new, h.nd⟩
theorem Fr.calls {w W W' : World} {L : List Ob} (h : Fr w L W) (hb : Below W.heap.size W W') : Fr w L W' :=
  ⟨h.old.trans (hb.mono h.old.size), fun o ho => (h.obs o ho).calls hb, h.new, h.nd⟩
theorem Fr.put {w W : World} {L : List Ob} (h : Fr w L W) (t : TypeId) (cs : List Value) : Fr w (L ++ [⟨W.heap.size, t, cs⟩]) (W.alloc (.cells cs.toArray t)) := by
  refine ⟨h.old.trans (((Below.refl _ _).alloc (Nat.le_refl _) _).mono h.old.size), fun o ho => ?_, fun o ho => ?_, ?_⟩
  · rcases List.mem_append.1 ho with ho | ho
    · exact (h.obs o ho).calls ((Below.refl _ _).alloc (Nat.le_refl _) _)
    · obtain rfl := List.mem_singleton.1 ho
      exact heap_alloc_last W _
  · rcases List.mem_append.1 ho with ho | ho
    · exact h.new o ho
    · obtain rfl := List.mem_singleton.1 ho
      exact h.old.size
  · rw [List.pairwise_append]
    refine ⟨h.nd, List.pairwise_singleton _ _, fun a ha b hb => ?_⟩
    obtain rfl := List.mem_singleton.1 hb
    have := (h.obs a ha).lt
    show a.b ≠ W.heap.size
    omega
theorem pair_ne {L : List Ob} (hn : L.Pairwise fun o o' => o.b ≠ o'.b) : ∀ (i j : Nat) (x y : Ob), L[i]? = some x → L[j]? = some y → i ≠ j → x.b ≠ y.b := by
  induction L with
  | nil => intro i j x y hx; simp at hx
  | cons z l ih =>
    rw [List.pairwise_cons] at hn
    intro i j x y hx hy hij
    cases i with
    | zero =>
      cases j with
      | zero => exact absurd rfl hij
      | succ j =>
        obtain rfl : z = x := by simpa using hx
        exact hn.1 y (List.mem_of_getElem? (by simpa using hy))
    | succ i =>
      cases j with
      | zero =>
        obtain rfl : z = y := by simpa using hy
        exact fun e => hn.1 x (List.mem_of_getElem? (by simpa using hx)) e.symm
      | succ j => exact ih hn.2 i j x y (by simpa using hx) (by simpa using hy) (by omega)
theorem Fr.ne {w W : World} {L : List Ob} (h : Fr w L W) (i j : Nat) {b c : Nat} {t u : TypeId} {x y : List Value} (ei : L[i]? = some ⟨b, t, x⟩) (ej : L[j]? = some ⟨c, u, y⟩) (hij : i ≠ j) : b ≠ c := pair_ne h.nd i j _ _ ei ej hij
theorem pair_set {L : List Ob} {i : Nat} {o : Ob} (hn : L.Pairwise fun o o' => o.b ≠ o'.b) (e : L[i]? = some o) (o' : Ob) (hb : o'.b = o.b) : (L.set i o').Pairwise fun o o' => o.b ≠ o'.b := by
  induction L generalizing i with
  | nil => simp at e
  | cons x l ih =>
    rw [List.pairwise_cons] at hn
    cases i with
    | zero =>
      obtain rfl : x = o := by simpa using e
      rw [List.set_cons_zero, List.pairwise_cons]
      exact ⟨fun y hy => by rw [hb]; exact hn.1 y hy, hn.2⟩
    | succ i =>
      have e' : l[i]? = some o := by simpa using e
      rw [List.set_cons_succ, List.pairwise_cons]
      refine ⟨fun y hy => ?_, ih hn.2 e'⟩
      rcases List.mem_or_eq_of_mem_set hy with hy | rfl
      · exact hn.1 y hy
      · rw [hb]; exact hn.1 o (List.mem_of_getElem? e')
theorem other_of {L : List Ob} {i : Nat} {o x : Ob} (hn : L.Pairwise fun o o' => o.b ≠ o'.b) (e : L[i]? = some o) (o' : Ob) (hx : x ∈ L.set i o') : x = o' ∨ (x ∈ L ∧ x.b ≠ o.b) := by
  induction L generalizing i with
  | nil => simp at e
  | cons y l ih =>
    rw [List.pairwise_cons] at hn
    cases i with
    | zero =>
      obtain rfl : y = o := by simpa using e
      rw [List.set_cons_zero] at hx
      rcases List.mem_cons.1 hx with rfl | hx
      · exact .inl rfl
      · exact .inr ⟨List.mem_cons_of_mem _ hx, fun e => hn.1 x hx e.symm⟩
    | succ i =>
      have e' : l[i]? = some o := by simpa using e
      rw [List.set_cons_succ] at hx
      rcases List.mem_cons.1 hx with rfl | hx
      · exact .inr ⟨List.mem_cons_self .., hn.1 o (List.mem_of_getElem? e')⟩
      · rcases ih hn.2 e' hx with h | h
        · exact .inl h
        · exact .inr ⟨List.mem_cons_of_mem _ h.1, h.2⟩
/-- an object turned, the others as they were -/
theorem Fr.turn {w W W' : World} {L : List Ob} (h : Fr w L W) (i : Nat) {o : Ob} (e : L[i]? = some o) (cs : List Value) (hn : Ob.In ⟨o.b, o.t, cs⟩ W') (ho : ∀ k, k ≠ o.b → W'.heap[k]? = W.heap[k]?) (hos : W'.os = W.os) (ht : W'.tape = W.tape) (hout : W'.output = W.output) (hs : W.heap.size ≤ W'.heap.size) :
    Fr w (L.set i ⟨o.b, o.t, cs⟩) W' := by
  have hm := List.mem_of_getElem? e
  refine ⟨⟨hos.trans h.old.os, ht.trans h.old.tape, hout.trans h.old.output, Nat.le_trans h.old.size hs, fun k hk => (ho k (by have := h.new o hm; omega)).trans (h.old.block k hk)⟩, fun x hx => ?_, fun x hx => ?_, pair_set h.nd e _ rfl⟩
  · rcases other_of h.nd e _ hx with rfl | ⟨hx, hb⟩
    · exact hn
    · exact (ho x.b hb).trans (h.obs x hx)
  · rcases other_of h.nd e _ hx with rfl | ⟨hx, hb⟩
    · exact h.new o hm
    · exact h.new x hx
theorem Fr.set {w W : World} {L : List Ob} (h : Fr w L W) (i : Nat) {o : Ob} (e : L[i]? = some o) (k : Nat) (v : Value) : Fr w (L.set i ⟨o.b, o.t, o.cs.set k v⟩) (W.setCell ⟨o.b, k, none⟩ v) :=
  h.turn i e _ ((h.at i e).set k v) (fun j hj => Below.heap_setCell _ _ _ _ hj) rfl rfl rfl (by simp [World.setCell])
theorem Fr.row {w W : World} {L : List Ob} (h : Fr w L W) (i : Nat) {o : Ob} (e : L[i]? = some o) (cs : List Value) : Fr w (L.set i ⟨o.b, o.t, cs⟩) (W.setRow o.b cs.toArray) :=
  h.turn i e _ (setRow_heap _ _ _ _ _ _ (h.at i e)) (fun j hj => setRow_other _ _ _ _ hj) rfl rfl rfl (by simp [World.setRow])

/-- the same, and choices at block C -/
structure St (w : World) (C : Nat) (L : List Ob) (W : World) : Prop where
  fr : Fr w L W
  codes : CodesOk W C
  le : w.heap.size ≤ C
  ne : ∀ o ∈ L, o.b ≠ C
theorem St.old {w W : World} {C : Nat} {L : List Ob} (h : St w C L W) : Below w.heap.size w W := h.fr.old
theorem St.at {w W : World} {C : Nat} {L : List Ob} (h : St w C L W) (i : Nat) {o : Ob} (e : L[i]? = some o) : o.In W := h.fr.at i e
theorem St.get {w W : World} {C : Nat} {L : List Ob} (h : St w C L W) (i : Nat) {b : Nat} {t : TypeId} {cs : List Value} (e : L[i]? = some ⟨b, t, cs⟩) : W.heap[b]? = some (.cells cs.toArray t (0, 0)) := h.fr.at i e
theorem St.drew {w W : World} {C : Nat} {L : List Ob} (h : St w C L W) : St w C L W.drew := ⟨h.fr.drew, h.codes.drew, h.le, h.ne⟩
theorem St.drewN {w W : World} {C : Nat} {L : List Ob} (h : St w C L W) (q : Nat) : St w C L (W.drewN q) := ⟨h.fr.drewN q, h.codes.drewN q, h.le, h.ne⟩
theorem St.calls {w W W' : World} {C : Nat} {L : List Ob} (h : St w C L W) (hb : Below W.heap.size W W') : St w C L W' := ⟨h.fr.calls hb, h.codes.below hb h.codes.lt, h.le, h.ne⟩
theorem St.put {w W : World} {C : Nat} {L : List Ob} (h : St w C L W) (t : TypeId) (cs : List Value) : St w C (L ++ [⟨W.heap.size, t, cs⟩]) (W.alloc (.cells cs.toArray t)) :=
  ⟨h.fr.put t cs, h.codes.below ((Below.refl _ _).alloc (Nat.le_refl _) _) h.codes.lt, h.le, fun o ho => by
    rcases List.mem_append.1 ho with ho | ho
    · exact h.ne o ho
    · obtain rfl := List.mem_singleton.1 ho
      have := h.codes.lt
      show W.heap.size ≠ C
      omega⟩
theorem ne_set {L : List Ob} {i : Nat} {o o' : Ob} {C : Nat} (h : ∀ x ∈ L, x.b ≠ C) (e : L[i]? = some o) (hb : o'.b = o.b) : ∀ x ∈ L.set i o', x.b ≠ C := fun x hx => by
  rcases List.mem_or_eq_of_mem_set hx with hx | rfl
  · exact h x hx
  · rw [hb]; exact h o (List.mem_of_getElem? e)
theorem St.set {w W : World} {C : Nat} {L : List Ob} (h : St w C L W) (i : Nat) {o : Ob} (e : L[i]? = some o) (hC : C < o.b) (k : Nat) (v : Value) : St w C (L.set i ⟨o.b, o.t, o.cs.set k v⟩) (W.setCell ⟨o.b, k, none⟩ v) :=
  ⟨h.fr.set i e k v, CodesOk.setOwn h.codes hC k v, h.le, ne_set h.ne e rfl⟩
theorem St.row {w W : World} {C : Nat} {L : List Ob} (h : St w C L W) (i : Nat) {o : Ob} (e : L[i]? = some o) (hC : C < o.b) (cs : List Value) : St w C (L.set i ⟨o.b, o.t, cs⟩) (W.setRow o.b cs.toArray) :=
  ⟨h.fr.row i e cs, h.codes.below (below_setRow (Below.refl o.b W) (Nat.le_refl _) _) hC, h.le, ne_set h.ne e rfl⟩
/-- within a function that is handed choices: all but those is as it was, and these objects are new -/
structure Dr (w : World) (C : Nat) (L : List Ob) (W : World) : Prop where
  bes : Besides C w W
  codes : CodesOk W C
  lt : C < w.heap.size
  obs : ∀ o ∈ L, o.In W
  new : ∀ o ∈ L, w.heap.size ≤ o.b
  nd : L.Pairwise fun o o' => o.b ≠ o'.b
theorem Dr.start {w : World} {C : Nat} (h : CodesOk w C) : Dr w C [] w := ⟨Besides.refl _ _, h, h.lt, by simp, by simp, .nil⟩
theorem Dr.get {w W : World} {C : Nat} {L : List Ob} (h : Dr w C L W) (i : Nat) {b : Nat} {t : TypeId} {cs : List Value} (e : L[i]? = some ⟨b, t, cs⟩) : W.heap[b]? = some (.cells cs.toArray t (0, 0)) := h.obs _ (List.mem_of_getElem? e)
theorem Dr.at {w W : World} {C : Nat} {L : List Ob} (h : Dr w C L W) (i : Nat) {o : Ob} (e : L[i]? = some o) : o.In W := h.obs _ (List.mem_of_getElem? e)
theorem Dr.put {w W : World} {C : Nat} {L : List Ob} (h : Dr w C L W) (t : TypeId) (cs : List Value) : Dr w C (L ++ [⟨W.heap.size, t, cs⟩]) (W.alloc (.cells cs.toArray t)) := by
  refine ⟨h.bes.alloc _, h.codes.below ((Below.refl _ _).alloc (Nat.le_refl _) _) h.codes.lt, h.lt, fun o ho => ?_, fun o ho => ?_, ?_⟩
  · rcases List.mem_append.1 ho with ho | ho
    · exact (h.obs o ho).calls ((Below.refl _ _).alloc (Nat.le_refl _) _)
    · obtain rfl := List.mem_singleton.1 ho
      exact heap_alloc_last W _
  · rcases List.mem_append.1 ho with ho | ho
    · exact h.new o ho
    · obtain rfl := List.mem_singleton.1 ho
      exact h.bes.size
  · rw [List.pairwise_append]
    refine ⟨h.nd, List.pairwise_singleton _ _, fun a ha b hb => ?_⟩
    obtain rfl := List.mem_singleton.1 hb
    have := (h.obs a ha).lt
    show a.b ≠ W.heap.size
    omega
theorem Dr.turn {w W W' : World} {C : Nat} {L : List Ob} (h : Dr w C L W) (i : Nat) {o : Ob} (e : L[i]? = some o) (cs : List Value) (hn : Ob.In ⟨o.b, o.t, cs⟩ W') (hb : Below o.b W W') (ho : ∀ k, k ≠ o.b → W'.heap[k]? = W.heap[k]?) : Dr w C (L.set i ⟨o.b, o.t, cs⟩) W' := by
  have hm := List.mem_of_getElem? e
  have hnw := h.new o hm
  have hlt := h.lt
  refine ⟨⟨hb.os.trans h.bes.os, hb.tape.trans h.bes.tape, hb.output.trans h.bes.output, Nat.le_trans h.bes.size hb.size, fun k hk hC => (ho k (by omega)).trans (h.bes.block k hk hC), fun hC => (World.cell?_of_block (a := ⟨C, 0, none⟩) (ho C (by omega))).trans (h.bes.head hC)⟩, h.codes.below hb (by omega), hlt, fun x hx => ?_, fun x hx => ?_, pair_set h.nd e _ rfl⟩
  · rcases other_of h.nd e _ hx with rfl | ⟨hx, hb⟩
    · exact hn
    · exact (ho x.b hb).trans (h.obs x hx)
  · rcases other_of h.nd e _ hx with rfl | ⟨hx, hb⟩
    · exact hnw
    · exact h.new x hx
theorem Dr.set {w W : World} {C : Nat} {L : List Ob} (h : Dr w C L W) (i : Nat) {o : Ob} (e : L[i]? = some o) (k : Nat) (v : Value) : Dr w C (L.set i ⟨o.b, o.t, o.cs.set k v⟩) (W.setCell ⟨o.b, k, none⟩ v) :=
  h.turn i e _ ((h.at i e).set k v) ((Below.refl _ _).setCell (p := ⟨o.b, k, none⟩) (Nat.le_refl _) v) (fun _ hj => Below.heap_setCell _ _ _ _ hj)
theorem Dr.row {w W : World} {C : Nat} {L : List Ob} (h : Dr w C L W) (i : Nat) {o : Ob} (e : L[i]? = some o) (cs : List Value) : Dr w C (L.set i ⟨o.b, o.t, cs⟩) (W.setRow o.b cs.toArray) :=
  h.turn i e _ (setRow_heap _ _ _ _ _ _ (h.at i e)) (below_setRow (Below.refl _ _) (Nat.le_refl _) _) (fun _ hj => setRow_other _ _ _ _ hj)

/-- the operations on whole objects, written out: where another one stands they fail at once -/
theorem wpList_store_ob (t : TypeId) (x : Operand) {y : Operand} {ops : Array Oper} {rest : List Oper} {a : Act} {w : World} {Q : Exit → Act → World → Prop} {ty : TypeId} {pos : String} {aft : Array Edge}
    (b : Nat) (cs zs : List Value) (t0 : TypeId) (hx : a.eval x = .pointer (some ⟨b, 0, none⟩)) (hy : a.eval y = .agg cs.toArray) (hg : w.heap[b]? = some (.cells zs.toArray t0 (0, 0)))
    (hi : (Try.prog.info? t).map (·.size) = some cs.length) (hl : zs.length = cs.length) (h1 : cs.toArray.all (·.oneCell') = true)
    (h : wpList Try.prog ops Q rest a (w.setRow b cs.toArray)) :
    wpList Try.prog ops Q ({ dst := none, op := .store t x y, type := ty, pos := pos, after := aft, guard := none } :: rest) a w :=
  wpList_store_row rfl t x y rfl b cs.toArray hx hy t0 zs.toArray hg (by rw [List.size_toArray]; exact hi) (by rw [List.size_toArray, List.size_toArray]; exact hl) h1 h
theorem wpList_load_ob (t : TypeId) (x : Operand) {ops : Array Oper} {rest : List Oper} {a : Act} {w : World} {Q : Exit → Act → World → Prop} {d : Option Tmp} {ty : TypeId} {pos : String} {aft : Array Edge}
    (b : Nat) (cs : List Value) (t0 : TypeId) {ds : TypeDesc} (hu : Try.prog.underlying t = some ds) (hx : a.eval x = .pointer (some ⟨b, 0, none⟩)) (hg : w.heap[b]? = some (.cells cs.toArray t0 (0, 0)))
    (hd : ds.isRow = true) (hi : (Try.prog.info? t).map (·.size) = some cs.length)
    (h : wpList Try.prog ops Q rest (a.put d (.agg cs.toArray)) w) :
    wpList Try.prog ops Q ({ dst := d, op := .load t x, type := ty, pos := pos, after := aft, guard := none } :: rest) a w :=
  wpList_load_row rfl t x rfl b hx t0 cs.toArray (0, 0) ds hg hu (by cases ds <;> simp_all) (by rw [List.size_toArray]; exact hi) h
theorem wpList_load_row_g {ops : Array Oper} {rest : List Oper} {o : Oper} {a : Act} {w : World} {Q : Exit → Act → World → Prop} (hw : Region.wanted o (yielded ops a.tmps) = true) (ty : TypeId) (x : Operand) (ho : o.op = .load ty x)
    (g : Nat) (hx : a.eval x = .pointer (some ⟨g, 0, none⟩)) (t : TypeId) (cs : Array Value) (fr : Nat × Nat) (d : TypeDesc) (hg : w.heap[g]? = some (.cells cs t fr))
    (hu : Try.prog.underlying ty = some d) (hd : d.isRow = true) (hi : (Try.prog.info? ty).map (·.size) = some cs.size)
    (h : wpList Try.prog ops Q rest (a.put o.dst (.agg cs)) w) : wpList Try.prog ops Q (o :: rest) a w :=
  wpList_step fun K hK => by
    rw [if_pos hw]
    exact wp_load_row ty x ho g hx t cs fr d hg hu (by cases d <;> simp_all) hi (hK _ _ h)
theorem wpList_load_ob_w (t : TypeId) (x : Operand) {ops : Array Oper} {rest : List Oper} {a : Act} {w : World} {Q : Exit → Act → World → Prop} {d : Option Tmp} {ty : TypeId} {pos : String} {aft : Array Edge} {gd : Nat × Bool}
    (b : Nat) (cs : List Value) (t0 : TypeId) {ds : TypeDesc} (hu : Try.prog.underlying t = some ds) (hw : Region.wanted { dst := d, op := .load t x, type := ty, pos := pos, after := aft, guard := some gd } (yielded ops a.tmps) = true) (hx : a.eval x = .pointer (some ⟨b, 0, none⟩)) (hg : w.heap[b]? = some (.cells cs.toArray t0 (0, 0)))
    (hd : ds.isRow = true) (hi : (Try.prog.info? t).map (·.size) = some cs.length)
    (h : wpList Try.prog ops Q rest (a.put d (.agg cs.toArray)) w) :
    wpList Try.prog ops Q ({ dst := d, op := .load t x, type := ty, pos := pos, after := aft, guard := some gd } :: rest) a w :=
  wpList_load_row_g hw t x rfl b hx t0 cs.toArray (0, 0) ds hg hu hd (by rw [List.size_toArray]; exact hi) h
theorem wpList_load_at (t : TypeId) (x : Operand) {ops : Array Oper} {rest : List Oper} {a : Act} {w : World} {Q : Exit → Act → World → Prop} {d : Option Tmp} {ty : TypeId} {pos : String} {aft : Array Edge}
    (b o : Nat) (cs : List Value) {ds : TypeDesc} (hu : Try.prog.underlying t = some ds) (hx : a.eval x = .pointer (some ⟨b, o, none⟩)) (hg : w.rangeAt b o cs)
    (hd : ds.isRow = true) (hi : (Try.prog.info? t).map (·.size) = some cs.length)
    (h : wpList Try.prog ops Q rest (a.put d (.agg cs.toArray)) w) :
    wpList Try.prog ops Q ({ dst := d, op := .load t x, type := ty, pos := pos, after := aft, guard := none } :: rest) a w :=
  wpList_load_mid rfl t x rfl b o hx cs ds hg hu hd hi h
/-- an object and a word, as the results -/
theorem results_ob_tmp {fn : Func} {p u : Tmp} {t : TypeId} (h : fn.results = #[.cell p t, .tmp u]) (tmps : Array Value) (w : World) (g : Nat) (cs : List Value) (t0 : TypeId) (ds : TypeDesc)
    (hp : tmps.getD p undef = .pointer (some ⟨g, 0, none⟩)) (hg : w.heap[g]? = some (.cells cs.toArray t0 (0, 0))) (hu : Try.prog.underlying t = some ds) (hd : ds.isRow = true) (hi : (Try.prog.info? t).map (·.size) = some cs.length) :
    (results fn tmps).run Try.prog w = .ok (.tuple #[.agg cs.toArray, tmps.getD u undef]) w := by
  rw [results_cell_tmp h, hp]
  simp [asAddr, run_loadVar_row w g t0 t cs.toArray (0, 0) ds hg hu (by cases ds <;> simp_all) (by rw [List.size_toArray]; exact hi), Result.andThen]
theorem results_ob {fn : Func} {p : Tmp} {t : TypeId} (h : fn.results = #[.cell p t]) (tmps : Array Value) (w : World) (g : Nat) (cs : List Value) (t0 : TypeId) (ds : TypeDesc)
    (hp : tmps.getD p undef = .pointer (some ⟨g, 0, none⟩)) (hg : w.heap[g]? = some (.cells cs.toArray t0 (0, 0))) (hu : Try.prog.underlying t = some ds) (hd : ds.isRow = true) (hi : (Try.prog.info? t).map (·.size) = some cs.length) :
    (results fn tmps).run Try.prog w = .ok (.agg cs.toArray) w :=
  results_cell_row h tmps w g t0 cs.toArray (0, 0) ds hp hg hu (by cases ds <;> simp_all) (by rw [List.size_toArray]; exact hi)
theorem wpList_alloc_ob (t : TypeId) (cs : List Value) {ops : Array Oper} {rest : List Oper} {a : Act} {w : World} {Q : Exit → Act → World → Prop} {d : Option Tmp} {ty : TypeId} {pos : String} {aft : Array Edge}
    (hr : ∀ W, Sem.run Try.prog (Instr.alloc t true (.tuple #[])) W = .ok (.pointer (some ⟨W.heap.size, 0, none⟩)) (W.alloc (.cells cs.toArray t)))
    (h : wpList Try.prog ops Q rest (a.put d (.pointer (some ⟨w.heap.size, 0, none⟩))) (w.alloc (.cells cs.toArray t))) :
    wpList Try.prog ops Q ({ dst := d, op := .alloc t, type := ty, pos := pos, after := aft, guard := none } :: rest) a w :=
  wpList_plain rfl fun _ hK => by
    unfold Oper.wp execOp
    have := hr w
    simp only [Sem.run_bind, this, Result.andThen_ok, Sem.run_pure]
    exact hK _ _ h
theorem wp_store_ob {o : Oper} {a : Act} {w : World} {K : Act → World → Prop} {Q : Exit → Act → World → Prop} (t : TypeId) (x y : Operand) (b : Nat) (cs zs : List Value) (t0 : TypeId) (ho : o.op = .store t x y) (hd : o.dst = none) (hx : a.eval x = .pointer (some ⟨b, 0, none⟩)) (hy : a.eval y = .agg cs.toArray) (hg : w.heap[b]? = some (.cells zs.toArray t0 (0, 0)))
    (hi : (Try.prog.info? t).map (·.size) = some cs.length) (hl : zs.length = cs.length) (h1 : cs.toArray.all (·.oneCell') = true)
    (h : K a (w.setRow b cs.toArray)) : o.wp Try.prog a w K Q :=
  wp_store_row t x y ho b cs.toArray hx hy t0 zs.toArray hg (by rw [List.size_toArray]; exact hi) (by rw [List.size_toArray, List.size_toArray]; exact hl) h1 (by rw [hd]; exact h)
/-- these objects lie there -/
def Obs (L : List Ob) (W : World) : Prop := ∀ o ∈ L, o.In W
theorem Obs.whole {L : List Ob} {W : World} (h : Obs L W) (i : Nat) {b : Nat} {t : TypeId} {cs : List Value} (e : L[i]? = some ⟨b, t, cs⟩) : W.rangeAt b 0 cs := (h _ (List.mem_of_getElem? e)).whole
theorem Obs.get {L : List Ob} {W : World} (h : Obs L W) (i : Nat) {b : Nat} {t : TypeId} {cs : List Value} (e : L[i]? = some ⟨b, t, cs⟩) : W.heap[b]? = some (.cells cs.toArray t (0, 0)) := h _ (List.mem_of_getElem? e)
theorem Obs.at {L : List Ob} {W : World} (h : Obs L W) (i k : Nat) {b : Nat} {t : TypeId} {cs : List Value} {v : Value} (e : L[i]? = some ⟨b, t, cs⟩) (hv : cs[k]? = some v) : W.cell? ⟨b, k, none⟩ = some v := (h _ (List.mem_of_getElem? e)).at k hv
theorem Fr.all {w W : World} {L : List Ob} (h : Fr w L W) : Obs L W := h.obs
theorem St.all {w W : World} {C : Nat} {L : List Ob} (h : St w C L W) : Obs L W := h.fr.obs
/-- a value is built -/
theorem wpList_build_v (t : TypeId) {ps : Array (Nat × Operand)} {ops : Array Oper} {rest : List Oper} {a : Act} {w : World} {Q : Exit → Act → World → Prop} {d : Option Tmp} {ty : TypeId} {pos : String} {aft : Array Edge}
    (v : Value) (hb : ∀ W, Sem.run Try.prog (Instr.build t (ps.map fun x => (x.1, a.eval x.2))) W = .ok v W)
    (h : wpList Try.prog ops Q rest (a.put d v) w) :
    wpList Try.prog ops Q ({ dst := d, op := .build t ps, type := ty, pos := pos, after := aft, guard := none } :: rest) a w :=
  wpList_plain rfl fun K hK => by
    unfold Oper.wp execOp
    have := hb w
    simp only [Sem.run_bind, this, Result.andThen_ok, Sem.run_pure]
    exact hK _ _ h
/-- two values of one type are compared by their words -/
noncomputable def sameV {α : Type} (a b : α) : Bool := @decide (a = b) (Classical.propDecidable _)
theorem sameV_iff {α : Type} {a b : α} : sameV a b = true ↔ a = b := by unfold sameV; exact @decide_eq_true_iff (a = b) (Classical.propDecidable _)
theorem equal_lits {α : Type} (t : TypeId) (a b : α) (x y : List Value) (la lb : List Lit) (hd : Try.prog.keyTypeAt 4 t = true) (fx : (Value.agg x.toArray).formed Try.prog t = true) (fy : (Value.agg y.toArray).formed Try.prog t = true) (lx : Try.prog.keyLits 4 t x = some la) (ly : Try.prog.keyLits 4 t y = some lb) (hi : la = lb ↔ a = b) (w : World) :
    Sem.run Try.prog (Op.equal t (.agg x.toArray) (.agg y.toArray)) w = .ok (sameV a b) w := by
  obtain ⟨r, hr, hiff⟩ := run_equalIn_deep (P := Try.prog) 9996 4 t hd w 4 4 (.agg x.toArray) (.agg y.toArray) la lb fx fy lx ly
  have e : sameV a b = r := by rw [Bool.eq_iff_iff, hiff, sameV_iff]; exact hi.symm
  rw [e]
  exact hr
theorem run_eql {α : Type} {t : TypeId} {a b : α} {x y : List Value} (h : ∀ w, Sem.run Try.prog (Op.equal t (.agg x.toArray) (.agg y.toArray)) w = .ok (sameV a b) w) (w : World) :
    Sem.run Try.prog (binOp .eql t (.agg x.toArray) (.agg y.toArray)) w = .ok (.bool (sameV a b)) w := by
  simp only [binOp, Sem.run_bind, h, Result.andThen_ok, Sem.run_pure]
theorem run_neq {α : Type} {t : TypeId} {a b : α} {x y : List Value} (h : ∀ w, Sem.run Try.prog (Op.equal t (.agg x.toArray) (.agg y.toArray)) w = .ok (sameV a b) w) (w : World) :
    Sem.run Try.prog (binOp .neq t (.agg x.toArray) (.agg y.toArray)) w = .ok (.bool (!sameV a b)) w := by
  simp only [binOp, Sem.run_bind, h, Result.andThen_ok, Sem.run_pure]
end Go.Proofs.Ytooaldglgkjjgaa
/- what a walk keeps of memory: objects, slices of its own, choices; what was there is as it was -/
namespace Go.Proofs.Ytooaldglgkjjgaa
open Go.RowKit
set_option maxRecDepth 20000

/-- cells that are read: a block, a place in it, what lies there -/
abbrev Rng := Nat × Nat × List Value
def RdIn (W : World) (R : List Rng) : Prop := ∀ r ∈ R, r.1 < W.heap.size ∧ W.rangeAt r.1 r.2.1 r.2.2
theorem RdIn.keep {W W' : World} {R : List Rng} (h : RdIn W R) (hs : W.heap.size ≤ W'.heap.size) (hk : ∀ b ∈ R.map (·.1), W'.heap[b]? = W.heap[b]?) : RdIn W' R := fun r hr => by
  obtain ⟨h1, h2⟩ := h r hr
  refine ⟨Nat.lt_of_lt_of_le h1 hs, fun j u hu => ?_⟩
  rw [World.cell?_of_block (a := ⟨r.1, r.2.1 + j, none⟩) (hk r.1 (List.mem_map.2 ⟨r, hr, rfl⟩))]
  exact h2 j u hu
theorem RdIn.lt {W : World} {R : List Rng} (h : RdIn W R) {b : Nat} (hb : b ∈ R.map (·.1)) : b < W.heap.size := by
  obtain ⟨r, hr, rfl⟩ := List.mem_map.1 hb
  exact (h r hr).1
theorem RdIn.below {W W' : World} {R : List Rng} (h : RdIn W R) (hb : Below W.heap.size W W') : RdIn W' R := h.keep hb.size (fun b hb' => hb.block b (h.lt hb'))
theorem RdIn.sub {W : World} {R S : List Rng} (h : RdIn W R) (hs : ∀ r ∈ S, r ∈ R) : RdIn W S := fun r hr => h r (hs r hr)
theorem RdIn.append {W : World} {R S : List Rng} (h : RdIn W R) (k : RdIn W S) : RdIn W (R ++ S) := fun r hr => (List.mem_append.1 hr).elim (h r) (k r)
theorem RdIn.nil (W : World) : RdIn W [] := fun r hr => by cases hr
/-- a thing in new memory: an object; a slice of the walk's own; choices; and cells that are read, wherever they are -/
inductive Th where
  | ob (b : Nat) (t : TypeId) (cs : List Value)
  | sl (v : Value) (e : TypeId) (z n : Nat) (xs : List Value)
  | cd (C : Nat)
  | rd (R : List Rng)
/-- its block -/
def Th.blk : Th → Option Nat
  | .ob b _ _ => some b
  | .sl v _ _ _ _ => v.ownBlock
  | .cd C => some C
  | .rd _ => none
/-- the blocks that it reads -/
def Th.reads : Th → List Nat
  | .rd R => R.map (·.1)
  | _ => []
/-- it lies in W, in memory from B on -/
def Th.In (B : Nat) (W : World) : Th → Prop
  | .ob b t cs => B ≤ b ∧ W.heap[b]? = some (.cells cs.toArray t (0, 0))
  | .sl v e z n xs => W.ownsRow B e z v n xs
  | .cd C => B ≤ C ∧ CodesOk W C ∧ ∃ a len cap, W.cell? ⟨C, 0, none⟩ = some (.slice a len cap) ∧ (0 < len → ∀ b off, a = some ⟨b, off, none⟩ → b < B)
  | .rd R => RdIn W R
def Th.Apart (x y : Th) : Prop := (∀ b, x.blk = some b → y.blk ≠ some b ∧ b ∉ y.reads) ∧ (∀ b, y.blk = some b → b ∉ x.reads)
theorem Th.In.from {B : Nat} {W : World} {x : Th} (h : x.In B W) {b : Nat} (hb : x.blk = some b) : B ≤ b ∧ b < W.heap.size := by
  cases x with
  | ob c t cs =>
    obtain rfl : c = b := Option.some.inj hb
    exact ⟨h.1, (Array.getElem?_eq_some_iff.1 h.2).1⟩
  | sl v e z n xs => exact World.ownsRow.lt h b hb
  | cd C =>
    obtain rfl : C = b := Option.some.inj hb
    exact ⟨h.1, h.2.1.lt⟩
  | rd R => cases hb
theorem Th.In.reads_lt {B : Nat} {W : World} {x : Th} (h : x.In B W) {b : Nat} (hb : b ∈ x.reads) : b < W.heap.size := by
  cases x with
  | rd R => exact RdIn.lt h hb
  | _ => cases hb
theorem codes_keep {w w' : World} {C B : Nat} (h : Th.In B w (.cd C)) (hs : w.heap.size ≤ w'.heap.size) (hC : w'.heap[C]? = w.heap[C]?) (ho : ∀ k, k < B → w'.heap[k]? = w.heap[k]?) : Th.In B w' (.cd C) := by
  obtain ⟨hB, ⟨a, len, cap, i, h0, h1, h2, h3, h4, h5, h6, h7⟩, a', len', cap', h8, h9⟩ := h
  have cell : ∀ j, w'.cell? ⟨C, j, none⟩ = w.cell? ⟨C, j, none⟩ := fun j => World.cell?_of_block (a := ⟨C, j, none⟩) hC
  have e := h1.symm.trans h8
  simp only [Option.some.injEq, Value.slice.injEq] at e
  obtain ⟨rfl, rfl, rfl⟩ := e
  refine ⟨hB, ⟨a, len, cap, i, by omega, by rw [cell 0]; exact h1, by rw [cell 1]; exact h2, by rw [World.frozen?_of_block (a := ⟨C, 1, none⟩) hC]; exact h3, h4, h5, h6, fun hl => ?_⟩, a, len, cap, by rw [cell 0]; exact h8, h9⟩
  obtain ⟨b, off, ha, hbC, hz⟩ := h7 hl
  have hb := h9 hl b off ha
  exact ⟨b, off, ha, hbC, fun j hj => by rw [World.cell?_of_block (a := ⟨b, off + j, none⟩) (ho b hb)]; exact hz j hj⟩
theorem Th.In.keep {B : Nat} {W W' : World} {x : Th} (h : x.In B W) (hs : W.heap.size ≤ W'.heap.size) (hx : ∀ b, x.blk = some b → W'.heap[b]? = W.heap[b]?) (ho : ∀ k, k < B → W'.heap[k]? = W.heap[k]?) (hr : ∀ b ∈ x.reads, W'.heap[b]? = W.heap[b]?) : x.In B W' := by
  cases x with
  | ob c t cs => exact ⟨h.1, (hx c rfl).trans h.2⟩
  | sl v e z n xs =>
    refine ⟨h.1, ?_⟩
    rcases h.2 with h0 | ⟨g, cap, cur, hv, hB, hg, hr⟩
    · exact .inl h0
    · exact .inr ⟨g, cap, cur, hv, hB, (hx g (by rw [hv]; rfl)).trans hg, hr⟩
  | cd C => exact codes_keep h hs (hx C rfl) ho
  | rd R => exact RdIn.keep h hs hr
theorem Th.Apart.symm {x y : Th} (h : x.Apart y) : y.Apart x := ⟨fun b hy => ⟨fun hx => (h.1 b hx).1 hy, h.2 b hy⟩, fun b hx => (h.1 b hx).2⟩

structure Hp (w : World) (L : List Th) (W : World) : Prop where
  old : Below w.heap.size w W
  all : ∀ x ∈ L, x.In w.heap.size W
  nd : L.Pairwise Th.Apart
theorem Hp.start (w : World) : Hp w [] w := ⟨Below.refl _ _, by simp, .nil⟩
theorem Hp.in {w W : World} {L : List Th} (h : Hp w L W) (i : Nat) {x : Th} (e : L[i]? = some x) : x.In w.heap.size W := h.all _ (List.mem_of_getElem? e)
theorem Hp.get {w W : World} {L : List Th} (h : Hp w L W) (i : Nat) {b : Nat} {t : TypeId} {cs : List Value} (e : L[i]? = some (.ob b t cs)) : W.heap[b]? = some (.cells cs.toArray t (0, 0)) := (h.in i e).2
theorem Hp.at {w W : World} {L : List Th} (h : Hp w L W) (i : Nat) {b : Nat} {t : TypeId} {cs : List Value} (e : L[i]? = some (.ob b t cs)) (k : Nat) {v : Value} (hv : cs[k]? = some v) : W.cell? ⟨b, k, none⟩ = some v := by
  rw [cell_of_row W b k _ _ _ (h.get i e), List.getElem?_toArray]; exact hv
theorem Hp.frozen {w W : World} {L : List Th} (h : Hp w L W) (i : Nat) {b : Nat} {t : TypeId} {cs : List Value} (e : L[i]? = some (.ob b t cs)) (k : Nat) : W.frozen? ⟨b, k, none⟩ = false := frozen_of_row _ _ _ _ _ (h.get i e)
theorem Hp.codes {w W : World} {L : List Th} (h : Hp w L W) (i : Nat) {C : Nat} (e : L[i]? = some (.cd C)) : CodesOk W C := (h.in i e).2.1
theorem Hp.own {w W : World} {L : List Th} (h : Hp w L W) (i : Nat) {v : Value} {t : TypeId} {z n : Nat} {xs : List Value} (e : L[i]? = some (.sl v t z n xs)) : W.ownsRow w.heap.size t z v n xs := h.in i e
theorem Hp.lt {w W : World} {L : List Th} (h : Hp w L W) (i : Nat) {x : Th} {b : Nat} (e : L[i]? = some x) (hb : x.blk = some b) : w.heap.size ≤ b ∧ b < W.heap.size := (h.in i e).from hb
theorem apart_at {L : List Th} (hn : L.Pairwise Th.Apart) : ∀ (i j : Nat) (x y : Th), L[i]? = some x → L[j]? = some y → i ≠ j → x.Apart y := by
  induction L with
  | nil => intro i j x y hx; simp at hx
  | cons z l ih =>
    rw [List.pairwise_cons] at hn
    intro i j x y hx hy hij
    cases i with
    | zero =>
      cases j with
      | zero => exact absurd rfl hij
      | succ j =>
        obtain rfl : z = x := by simpa using hx
        exact hn.1 y (List.mem_of_getElem? (by simpa using hy))
    | succ i =>
      cases j with
      | zero =>
        obtain rfl : z = y := by simpa using hy
        exact (hn.1 x (List.mem_of_getElem? (by simpa using hx))).symm
      | succ j => exact ih hn.2 i j x y (by simpa using hx) (by simpa using hy) (by omega)
theorem Hp.ne {w W : World} {L : List Th} (h : Hp w L W) (i j : Nat) {x y : Th} {b c : Nat} (ei : L[i]? = some x) (ej : L[j]? = some y) (hij : i ≠ j) (hb : x.blk = some b) (hc : y.blk = some c) : b ≠ c := fun e => by
  subst e
  exact (apart_at h.nd i j x y ei ej hij).1 b hb |>.1 hc
theorem Hp.drew {w W : World} {L : List Th} (h : Hp w L W) : Hp w L W.drew := ⟨h.old.drew, fun x hx => (h.all x hx).keep (Nat.le_refl _) (fun _ _ => rfl) (fun _ _ => rfl) (fun _ _ => rfl), h.nd⟩
theorem Hp.drewN {w W : World} {L : List Th} (h : Hp w L W) (q : Nat) : Hp w L (W.drewN q) := ⟨⟨h.old.os, h.old.tape, h.old.output, h.old.size, h.old.block⟩, fun x hx => (h.all x hx).keep (Nat.le_refl _) (fun _ _ => rfl) (fun _ _ => rfl) (fun _ _ => rfl), h.nd⟩
theorem Hp.calls {w W W' : World} {L : List Th} (h : Hp w L W) (hb : Below W.heap.size W W') : Hp w L W' :=
  ⟨h.old.trans (hb.mono h.old.size), fun x hx => (h.all x hx).keep hb.size (fun b e => hb.block b ((h.all x hx).from e).2) (fun k hk => hb.block k (Nat.lt_of_lt_of_le hk h.old.size)) (fun b hbr => hb.block b ((h.all x hx).reads_lt hbr)), h.nd⟩
theorem mem_apart {L : List Th} (hn : L.Pairwise Th.Apart) {x z : Th} (hx : x ∈ L) (hz : z ∈ L) {b : Nat} (hb : x.blk = some b) (hr : b ∈ z.reads) : False := by
  induction L with
  | nil => cases hx
  | cons y l ih =>
    rw [List.pairwise_cons] at hn
    rcases List.mem_cons.1 hx with rfl | hx'
    · rcases List.mem_cons.1 hz with rfl | hz'
      · cases z <;> first | (cases hb; done) | (cases hr; done) | simp [Th.blk] at hb
      · exact ((hn.1 z hz').1 b hb).2 hr
    · rcases List.mem_cons.1 hz with rfl | hz'
      · exact (hn.1 x hx').2 b hb hr
      · exact ih hn.2 hx' hz'
theorem Hp.reads_apart {w W : World} {L : List Th} (h : Hp w L W) {x z : Th} (hx : x ∈ L) (hz : z ∈ L) {b : Nat} (hb : x.blk = some b) (hr : b ∈ z.reads) : False := mem_apart h.nd hx hz hb hr
theorem Hp.add {w W W' : World} {L : List Th} (h : Hp w L W) (hb : Below W.heap.size W W') (y : Th) (hy : y.In w.heap.size W') (hn : ∀ b, y.blk = some b → W.heap.size ≤ b) (hr : ∀ b ∈ y.reads, W.heap.size ≤ b ∨ ∃ z ∈ L, b ∈ z.reads) : Hp w (L ++ [y]) W' := by
  have h' := h.calls hb
  refine ⟨h'.old, fun x hx => ?_, ?_⟩
  · rcases List.mem_append.1 hx with hx | hx
    · exact h'.all x hx
    · obtain rfl := List.mem_singleton.1 hx
      exact hy
  · rw [List.pairwise_append]
    refine ⟨h.nd, List.pairwise_singleton _ _, fun a ha b hb => ?_⟩
    obtain rfl := List.mem_singleton.1 hb
    refine ⟨fun c hac => ⟨fun hbc => ?_, fun hbr => ?_⟩, fun c hbc har => ?_⟩
    · have h1 := ((h.all a ha).from hac).2
      have h2 := hn c hbc
      omega
    · have h1 := ((h.all a ha).from hac).2
      rcases hr c hbr with h2 | ⟨z, hz, hzr⟩
      · omega
      · exact h.reads_apart ha hz hac hzr
    · have h1 := (h.all a ha).reads_lt har
      have h2 := hn c hbc
      omega
/-- an object is made -/
theorem Hp.put {w W : World} {L : List Th} (h : Hp w L W) (t : TypeId) (cs : List Value) : Hp w (L ++ [.ob W.heap.size t cs]) (W.alloc (.cells cs.toArray t)) :=
  h.add ((Below.refl _ _).alloc (Nat.le_refl _) _) (.ob W.heap.size t cs) ⟨h.old.size, heap_alloc_last W _⟩ (fun b e => by obtain rfl : W.heap.size = b := Option.some.inj e; exact Nat.le_refl _) (fun b e => by cases e)
/-- a slice of its own, nil as yet -/
theorem Hp.nil {w W : World} {L : List Th} (h : Hp w L W) (t : TypeId) (z : Nat) : Hp w (L ++ [.sl (.slice none 0 0) t z 0 []]) W :=
  h.add (Below.refl _ _) _ ⟨by simp, .inl ⟨rfl, rfl⟩⟩ (fun b e => by cases e) (fun b e => by cases e)
theorem pair_set' {L : List Th} {i : Nat} {x : Th} (hn : L.Pairwise Th.Apart) (e : L[i]? = some x) (y : Th) (hy : ∀ z ∈ L, z.Apart x → z.Apart y) : (L.set i y).Pairwise Th.Apart := by
  induction L generalizing i with
  | nil => simp at e
  | cons z l ih =>
    rw [List.pairwise_cons] at hn
    cases i with
    | zero =>
      obtain rfl : z = x := by simpa using e
      rw [List.set_cons_zero, List.pairwise_cons]
      exact ⟨fun u hu => (hy u (List.mem_cons_of_mem _ hu) (hn.1 u hu).symm).symm, hn.2⟩
    | succ i =>
      have e' : l[i]? = some x := by simpa using e
      rw [List.set_cons_succ, List.pairwise_cons]
      refine ⟨fun u hu => ?_, ih hn.2 e' (fun z hz => hy z (List.mem_cons_of_mem _ hz))⟩
      rcases List.mem_or_eq_of_mem_set hu with hu | rfl
      · exact hn.1 u hu
      · exact hy z (List.mem_cons_self ..) (hn.1 x (List.mem_of_getElem? e'))
theorem other_th {L : List Th} {i : Nat} {x z : Th} (hn : L.Pairwise Th.Apart) (e : L[i]? = some x) (y : Th) (hz : z ∈ L.set i y) : z = y ∨ (z ∈ L ∧ z.Apart x) := by
  induction L generalizing i with
  | nil => simp at e
  | cons u l ih =>
    rw [List.pairwise_cons] at hn
    cases i with
    | zero =>
      obtain rfl : u = x := by simpa using e
      rw [List.set_cons_zero] at hz
      rcases List.mem_cons.1 hz with rfl | hz
      · exact .inl rfl
      · exact .inr ⟨List.mem_cons_of_mem _ hz, (hn.1 z hz).symm⟩
    | succ i =>
      have e' : l[i]? = some x := by simpa using e
      rw [List.set_cons_succ] at hz
      rcases List.mem_cons.1 hz with rfl | hz
      · exact .inr ⟨List.mem_cons_self .., hn.1 x (List.mem_of_getElem? e')⟩
      · rcases ih hn.2 e' hz with h | h
        · exact .inl h
        · exact .inr ⟨List.mem_cons_of_mem _ h.1, h.2⟩
/-- a thing is turned; all that is not its block is as it was -/
theorem Hp.swap {w W W' : World} {L : List Th} (h : Hp w L W) (i : Nat) {x : Th} (e : L[i]? = some x) (y : Th) (hy : y.In w.heap.size W') (hn : ∀ b, y.blk = some b → x.blk = some b ∨ W.heap.size ≤ b) (hyr : y.reads = [])
    (hk : ∀ k, k < W.heap.size → x.blk ≠ some k → W'.heap[k]? = W.heap[k]?) (hos : W'.os = W.os) (ht : W'.tape = W.tape) (hout : W'.output = W.output) (hs : W.heap.size ≤ W'.heap.size) : Hp w (L.set i y) W' := by
  have hx := h.in i e
  have hold : ∀ k, k < w.heap.size → W'.heap[k]? = W.heap[k]? := fun k hk' => hk k (Nat.lt_of_lt_of_le hk' h.old.size) (fun e => by have := (hx.from e).1; omega)
  refine ⟨⟨hos.trans h.old.os, ht.trans h.old.tape, hout.trans h.old.output, Nat.le_trans h.old.size hs, fun k hk' => (hold k hk').trans (h.old.block k hk')⟩, fun z hz => ?_, pair_set' h.nd e y (fun z hz hzx => ?_)⟩
  · rcases other_th h.nd e y hz with rfl | ⟨hz, hzx⟩
    · exact hy
    · exact (h.all z hz).keep hs (fun b hb => hk b ((h.all z hz).from hb).2 (hzx.1 b hb).1) hold (fun b hb => hk b ((h.all z hz).reads_lt hb) (fun e => hzx.2 b e hb))
  · refine ⟨fun b hzb => ⟨fun hyb => ?_, fun hr => by rw [hyr] at hr; cases hr⟩, fun b hyb hzr => ?_⟩
    · rcases hn b hyb with hxb | hge
      · exact (hzx.1 b hzb).1 hxb
      · have := ((h.all z hz).from hzb).2
        omega
    · rcases hn b hyb with hxb | hge
      · exact hzx.2 b hxb hzr
      · have := (h.all z hz).reads_lt hzr
        omega
theorem Hp.set {w W : World} {L : List Th} (h : Hp w L W) (i : Nat) {b : Nat} {t : TypeId} {cs : List Value} (e : L[i]? = some (.ob b t cs)) (k : Nat) (v : Value) : Hp w (L.set i (.ob b t (cs.set k v))) (W.setCell ⟨b, k, none⟩ v) := by
  refine h.swap i e _ ⟨(h.in i e).1, ?_⟩ (fun b hb => .inl hb) rfl (fun j hj hne => Below.heap_setCell _ _ _ _ (fun e => hne (by rw [e]; rfl))) rfl rfl rfl (by simp [World.setCell])
  have := heap_setCell_same W b k _ _ v (h.get i e)
  rw [List.setIfInBounds_toArray] at this
  exact this
theorem Hp.row {w W : World} {L : List Th} (h : Hp w L W) (i : Nat) {b : Nat} {t : TypeId} {cs : List Value} (e : L[i]? = some (.ob b t cs)) (cs' : List Value) : Hp w (L.set i (.ob b t cs')) (W.setRow b cs'.toArray) :=
  h.swap i e _ ⟨(h.in i e).1, setRow_heap _ _ _ _ _ _ (h.get i e)⟩ (fun b hb => .inl hb) rfl (fun j hj hne => setRow_other _ _ _ _ (fun e => hne (by rw [e]; rfl))) rfl rfl rfl (by simp [World.setRow])
/-- a slice of its own has grown -/
theorem Hp.grown {w W W' : World} {L : List Th} (h : Hp w L W) (i : Nat) {v v' : Value} {t : TypeId} {z n m : Nat} {xs ys : List Value} (e : L[i]? = some (.sl v t z n xs)) (ho : W'.ownsRow w.heap.size t z v' m ys) (hg : W.grownBy W' v.ownBlock) (hb : v'.ownBlock = v.ownBlock ∨ v'.ownBlock = some W.heap.size) : Hp w (L.set i (.sl v' t z m ys)) W' := by
  refine h.swap i e _ ho (fun b hb' => ?_) rfl (fun k hk hne => hg.block k hk (fun e => hne e.symm)) hg.os hg.tape hg.output hg.size
  have hb'' : v'.ownBlock = some b := hb'
  rcases hb with hb | hb
  · exact .inl (hb.symm.trans hb'')
  · right
    rw [hb] at hb''
    exact Nat.le_of_eq (Option.some.inj hb'')
/-- what is not needed any more -/
theorem Hp.forget {w W : World} {L M : List Th} (h : Hp w (L ++ M) W) : Hp w L W := ⟨h.old, fun x hx => h.all x (List.mem_append_left _ hx), (List.pairwise_append.1 h.nd).1⟩
/-- some of the things alone -/
def Hold (B : Nat) (L : List Th) (W : World) : Prop := ∀ x ∈ L, x.In B W
theorem Hold.get {B : Nat} {L : List Th} {W : World} (h : Hold B L W) (i : Nat) {b : Nat} {t : TypeId} {cs : List Value} (e : L[i]? = some (.ob b t cs)) : W.heap[b]? = some (.cells cs.toArray t (0, 0)) := (h _ (List.mem_of_getElem? e)).2
theorem Hold.at {B : Nat} {L : List Th} {W : World} (h : Hold B L W) (i : Nat) {b : Nat} {t : TypeId} {cs : List Value} (e : L[i]? = some (.ob b t cs)) (k : Nat) {v : Value} (hv : cs[k]? = some v) : W.cell? ⟨b, k, none⟩ = some v := by
  rw [cell_of_row W b k _ _ _ (h.get i e), List.getElem?_toArray]; exact hv
theorem Hold.whole {B : Nat} {L : List Th} {W : World} (h : Hold B L W) (i : Nat) {b : Nat} {t : TypeId} {cs : List Value} (e : L[i]? = some (.ob b t cs)) : W.rangeAt b 0 cs := fun j v hv => by
  rw [Nat.zero_add]; exact h.at i e j hv
theorem Hp.pick {w W : World} {L M : List Th} (h : Hp w L W) (is : List Nat) (e : is.map (fun i => L[i]?) = M.map some) : Hold w.heap.size M W := fun x hx => by
  have : some x ∈ M.map some := List.mem_map.2 ⟨x, hx, rfl⟩
  rw [← e, List.mem_map] at this
  obtain ⟨i, _, hi⟩ := this
  exact h.in i hi
theorem Hp.pull {w W : World} {L M : List Th} (h : Hp w L W) (is : List Nat) (e : is.map (fun i => L[i]?) = M.map some) (hn : M.Pairwise Th.Apart) : Hp w M W := ⟨h.old, h.pick is e, hn⟩
theorem pull_nd {L M : List Th} (hn : L.Pairwise Th.Apart) (is : List Nat) (e : is.map (fun i => L[i]?) = M.map some) (hd : is.Pairwise (· ≠ ·)) : M.Pairwise Th.Apart := by
  induction is generalizing M with
  | nil =>
    cases M with
    | nil => exact .nil
    | cons m M => simp at e
  | cons i is ih =>
    cases M with
    | nil => simp at e
    | cons m M =>
      rw [List.map_cons, List.map_cons, List.cons.injEq] at e
      rw [List.pairwise_cons] at hd ⊢
      refine ⟨fun y hy => ?_, ih e.2 hd.2⟩
      have hy' : some y ∈ is.map (fun i => L[i]?) := by rw [e.2]; exact List.mem_map.2 ⟨y, hy, rfl⟩
      obtain ⟨j, hj, hje⟩ := List.mem_map.1 hy'
      exact apart_at hn i j m y e.1 hje (hd.1 j hj)
/-- part of a slice of its own -/
theorem own_range {B : Nat} {W : World} {t : TypeId} {z n : Nat} {v : Value} {xs : List Value} (h : W.ownsRow B t z v n xs) {g cap : Nat} (hv : v = .slice (some ⟨g, 0, none⟩) n cap) (k : Nat) (cs : List Value) (hc : ∀ j u, cs[j]? = some u → xs[k + j]? = some u) : W.rangeAt g k cs := fun j u hu => by
  rcases h.2 with ⟨h0, _⟩ | ⟨g', cap', cur, hv', _, hg, _, _, _, hx⟩
  · rw [hv] at h0; cases h0
  · rw [hv] at hv'
    have e : g = g' := by have := congrArg Value.ownBlock hv'; simpa [Value.ownBlock] using this
    subst e
    have hxs := hc j u hu
    rw [← hx] at hxs
    rw [cell_of_row W g (k + j) _ _ _ hg, ← Array.getElem?_toList]
    rw [List.getElem?_take] at hxs
    split at hxs
    · exact hxs
    · cases hxs
/-- what a type of elements is like -/
structure ElemIs (e : TypeId) (z bytes : Nat) : Prop where
  is : ∃ (inf : TypeInfo) (zv : Value), Try.prog.info? e = some inf ∧ inf.zero = some zv ∧ inf.size = z ∧ inf.bytes = bytes ∧ zv.cells.size = z
  pos : 0 < z
  small : z ≤ 65536
  room : bytes ≤ 65536
theorem Hp.append {w W : World} {L : List Th} (h : Hp w L W) (i : Nat) {v : Value} {e : TypeId} {z n : Nat} {xs : List Value} (ei : L[i]? = some (.sl v e z n xs)) (j : Nat) {b : Nat} {t' : TypeId} {ys : List Value} (ej : L[j]? = some (.ob b t' ys))
    (ts : TypeId) (ty : TypeId) {bytes : Nat} (ht : Try.prog.underlying ts = some (.slice e)) (he : ElemIs e z bytes) (m c : Nat) (hl : ys.length = m * z) (h1 : ∀ u ∈ ys, u.oneCell' = true) (hn : n + m ≤ 1048576) :
    ∃ v' W', (Builtin.append_ #[ts, ts] ty #[v, .slice (some ⟨b, 0, none⟩) m c]).run Try.prog W = .ok v' W' ∧ Hp w (L.set i (.sl v' e z (n + m) (xs ++ ys))) W' ∧ (v' = .slice none 0 0 ↔ v = .slice none 0 0 ∧ m = 0) := by
  obtain ⟨inf, zv, hi, hz, hsize, hby, hzs⟩ := he.is
  have hroom := he.room
  have hcell : ∀ q u, ys[q]? = some u → W.cell? ((⟨b, 0, none⟩ : Addr).add q) = some u := fun q u hu => by
    rw [Addr.add_mid, Nat.zero_add]
    exact h.at j ej q hu
  obtain ⟨v', W', hr, h2, h3, h4, h5⟩ := run_append_own_at (P := Try.prog) W w.heap.size ts ty e inf zv z bytes ht hi hz hsize hby hzs he.pos v n xs (h.own i ei) ⟨b, 0, none⟩ m c ys hl hcell h1 (by unfold maxLen; omega) (by
    have := Nat.mul_le_mul hn hroom
    omega) h.old.size
  exact ⟨v', W', hr, h.grown i ei h2 h3 h5, h4⟩
theorem wp_append_hp {o : Oper} {a : Act} {w W : World} {K : Act → World → Prop} {Q : Exit → Act → World → Prop} {L : List Th} (h : Hp w L W) (s x : Operand) (ts : TypeId) (ho : o.op = .call { callee := .builtin .append, args := #[s, x], argTypes := #[ts, ts] })
    (i : Nat) {v : Value} {e : TypeId} {z n : Nat} {xs : List Value} (ei : L[i]? = some (.sl v e z n xs)) (j : Nat) {b : Nat} {t' : TypeId} {ys : List Value} (ej : L[j]? = some (.ob b t' ys)) {bytes : Nat} (ht : Try.prog.underlying ts = some (.slice e)) (he : ElemIs e z bytes) (m c : Nat)
    (hs : a.eval s = v) (hx : a.eval x = .slice (some ⟨b, 0, none⟩) m c) (hl : ys.length = m * z) (h1 : ∀ u ∈ ys, u.oneCell' = true) (hn : n + m ≤ 1048576)
    (hk : ∀ v' W', Hp w (L.set i (.sl v' e z (n + m) (xs ++ ys))) W' → (v' = .slice none 0 0 ↔ v = .slice none 0 0 ∧ m = 0) → K (a.put o.dst v') W') : o.wp Try.prog a W K Q := by
  obtain ⟨v', W', hr, h2, h3⟩ := h.append i ei j ej ts o.type ht he m c hl h1 hn
  unfold Oper.wp execOp
  simp only [ho, resolve, invoke, builtin, Sem.run_bind, Sem.run_pure, Result.andThen_ok, List.map_toArray, List.map_cons, List.map_nil, hs, hx, hr]
  exact hk v' W' h2 h3
theorem wpList_append_hp {ops : Array Oper} {rest : List Oper} {a : Act} {w W : World} {Q : Exit → Act → World → Prop} {d : Option Tmp} {ty : TypeId} {pos : String} {aft : Array Edge} {L : List Th} (h : Hp w L W) (s x : Operand) (ts : TypeId)
    (i : Nat) {v : Value} {e : TypeId} {z n : Nat} {xs : List Value} (ei : L[i]? = some (.sl v e z n xs)) (j : Nat) {b : Nat} {t' : TypeId} {ys : List Value} (ej : L[j]? = some (.ob b t' ys)) {bytes : Nat} (ht : Try.prog.underlying ts = some (.slice e)) (he : ElemIs e z bytes) (m c : Nat)
    (hs : a.eval s = v) (hx : a.eval x = .slice (some ⟨b, 0, none⟩) m c) (hl : ys.length = m * z) (h1 : ∀ u ∈ ys, u.oneCell' = true) (hn : n + m ≤ 1048576)
    (hk : ∀ v' W', Hp w (L.set i (.sl v' e z (n + m) (xs ++ ys))) W' → (v' = .slice none 0 0 ↔ v = .slice none 0 0 ∧ m = 0) → wpList Try.prog ops Q rest (a.put d v') W') :
    wpList Try.prog ops Q ({ dst := d, op := .call { callee := .builtin .append, args := #[s, x], argTypes := #[ts, ts] }, type := ty, pos := pos, after := aft, guard := none } :: rest) a W :=
  wpList_plain rfl fun _ hK => wp_append_hp h s x ts rfl i ei j ej ht he m c hs hx hl h1 hn (fun v' W' p q => hK _ _ (hk v' W' p q))
/-- a slice of one, two or more elements, each a whole object -/
theorem run_build_obs {e ts : TypeId} {z bytes : Nat} (he : ElemIs e z bytes) (ht : Try.prog.underlying ts = some (.slice e)) (vs : List (List Value)) (hv : ∀ x ∈ vs, x.length = z) (h0 : 0 < vs.length) (h16 : vs.length ≤ 256) (W : World) :
    Sem.run Try.prog (Instr.buildSlice ts vs.length ((vs.zipIdx 0).map fun x => (x.2, Value.agg x.1.toArray)).toArray) W = .ok (.slice (some ⟨W.heap.size, 0, none⟩) vs.length vs.length) (W.alloc (.cells (vs.flatMap id).toArray e)) := by
  obtain ⟨inf, zv, hi, hz, hsize, hby, hzs⟩ := he.is
  have hp := he.pos
  have hsm := he.small
  refine run_buildSlice W ts e vs.length _ _ inf zv ht hi hz (by rw [hsize]; have := Nat.mul_le_mul h16 hsm; omega) (by rw [hsize]; exact Nat.ne_of_gt (Nat.mul_pos h0 hp)) ?_
  rw [hsize]
  have := Great.fill_whole (s := z) hp (vs.map fun x => Value.agg x.toArray) ((Array.range (vs.length * z)).map (zv.cells[· % zv.cells.size]!)) (by
    intro v hm
    obtain ⟨x, hx, rfl⟩ := List.mem_map.1 hm
    exact hv x hx) (by rw [Array.size_map, Array.size_range, List.length_map])
  rw [List.zipIdx_map, List.map_map] at this
  refine Eq.trans ?_ (this.trans ?_)
  · rfl
  · congr 1
    rw [List.flatMap_map]
    rfl
theorem wp_build_obs {o : Oper} {a : Act} {W : World} {K : Act → World → Prop} {Q : Exit → Act → World → Prop} {ts : TypeId} {n : Nat} {ps : Array (Nat × Operand)} (ho : o.op = .buildSlice ts n ps) {e : TypeId} {z bytes : Nat} (he : ElemIs e z bytes) (ht : Try.prog.underlying ts = some (.slice e)) (vs : List (List Value)) (hv : ∀ x ∈ vs, x.length = z) (h0 : 0 < vs.length) (h16 : vs.length ≤ 256) (hn : n = vs.length)
    (hp : ps.map (fun x => (x.1, a.eval x.2)) = ((vs.zipIdx 0).map fun x => (x.2, Value.agg x.1.toArray)).toArray)
    (h : K (a.put o.dst (.slice (some ⟨W.heap.size, 0, none⟩) n n)) (W.alloc (.cells (vs.flatMap id).toArray e))) : o.wp Try.prog a W K Q := by
  subst hn
  have hr := run_build_obs he ht vs hv h0 h16 W
  rw [← hp] at hr
  unfold Oper.wp execOp
  simp only [ho, Sem.run_bind, hr, Result.andThen_ok, Sem.run_pure]
  exact h
theorem wpList_build_obs (ts : TypeId) (n : Nat) {ps : Array (Nat × Operand)} {ops : Array Oper} {rest : List Oper} {a : Act} {W : World} {Q : Exit → Act → World → Prop} {d : Option Tmp} {ty : TypeId} {pos : String} {aft : Array Edge} {e : TypeId} {z bytes : Nat} (he : ElemIs e z bytes) (ht : Try.prog.underlying ts = some (.slice e)) (vs : List (List Value)) (hv : ∀ x ∈ vs, x.length = z) (h0 : 0 < vs.length) (h16 : vs.length ≤ 256) (hn : n = vs.length)
    (hp : ps.map (fun x => (x.1, a.eval x.2)) = ((vs.zipIdx 0).map fun x => (x.2, Value.agg x.1.toArray)).toArray)
    (h : wpList Try.prog ops Q rest (a.put d (.slice (some ⟨W.heap.size, 0, none⟩) n n)) (W.alloc (.cells (vs.flatMap id).toArray e))) :
    wpList Try.prog ops Q ({ dst := d, op := .buildSlice ts n ps, type := ty, pos := pos, after := aft, guard := none } :: rest) a W :=
  wpList_plain rfl fun _ hK => wp_build_obs rfl he ht vs hv h0 h16 hn hp (hK _ _ h)
/-- in a region that draws its order: a value that is built may be taken first -/
theorem yieldsIf_build_v {ops : Array Oper} {S : World → Prop} {op : Oper} {a : Act} (hw : Region.wanted op (yielded ops a.tmps) = true) (t : TypeId) (v : Value) {ps : Array (Nat × Operand)} (ho : op.op = .build t ps)
    (hb : ∀ W, Sem.run Try.prog (Instr.build t (ps.map fun x => (x.1, a.eval x.2))) W = .ok v W) : YieldsIf Try.prog ops S op v a :=
  .inl ⟨hw, fun W _ => by
    unfold execOp
    simp only [ho, Sem.run_bind, hb W, Result.andThen_ok, Sem.run_pure]⟩
/-- a slice that a callee has made -/
theorem Hp.addown {w W W' : World} {L : List Th} (h : Hp w L W) (hb : Below W.heap.size W W') {v : Value} {t : TypeId} {z n : Nat} {xs : List Value} (ho : W'.ownsRow W.heap.size t z v n xs) : Hp w (L ++ [.sl v t z n xs]) W' := by
  refine h.add hb _ ⟨ho.1, ?_⟩ (fun b e => (ho.lt b e).1) (fun b e => by cases e)
  rcases ho.2 with h0 | ⟨g, cap, cur, hv, hB, hr⟩
  · exact .inl h0
  · exact .inr ⟨g, cap, cur, hv, Nat.le_trans h.old.size hB, hr⟩
theorem Hp.reads {w W : World} {L : List Th} (h : Hp w L W) (i : Nat) {R : List Rng} (e : L[i]? = some (.rd R)) : RdIn W R := h.in i e
/-- cells that are read, in memory that a callee made or that is read already -/
theorem Hp.addrd {w W W' : World} {L : List Th} (h : Hp w L W) (hb : Below W.heap.size W W') (R : List Rng) (hR : RdIn W' R) (hr : ∀ r ∈ R, W.heap.size ≤ r.1 ∨ ∃ z ∈ L, r.1 ∈ z.reads) : Hp w (L ++ [.rd R]) W' :=
  h.add hb _ hR (fun b e => by cases e) (fun b hb' => by
    obtain ⟨r, hr', rfl⟩ := List.mem_map.1 hb'
    exact hr r hr')
/-- what the walk found is read -/
theorem Hp.startrd (w : World) (R : List Rng) (hR : RdIn w R) : Hp w [.rd R] w := ⟨Below.refl _ _, fun x hx => by
  obtain rfl := List.mem_singleton.1 hx
  exact hR, List.pairwise_singleton _ _⟩
/-- a slice of single words -/
theorem flat_cells {vs : List Value} (h : ∀ v ∈ vs, v.cells = #[v]) : (vs.flatMap fun v => v.cells.toList) = vs := by
  induction vs with
  | nil => rfl
  | cons v l ih => rw [List.flatMap_cons, h v (List.mem_cons_self ..), ih (fun u hu => h u (List.mem_cons_of_mem _ hu))]; rfl
theorem run_build_vals {e ts : TypeId} {bytes : Nat} (he : ElemIs e 1 bytes) (ht : Try.prog.underlying ts = some (.slice e)) (vs : List Value) (hv : ∀ v ∈ vs, v.cells = #[v]) (h0 : 0 < vs.length) (h16 : vs.length ≤ 256) (W : World) :
    Sem.run Try.prog (Instr.buildSlice ts vs.length ((vs.zipIdx 0).map fun x => (x.2, x.1)).toArray) W = .ok (.slice (some ⟨W.heap.size, 0, none⟩) vs.length vs.length) (W.alloc (.cells vs.toArray e)) := by
  obtain ⟨inf, zv, hi, hz, hsize, hby, hzs⟩ := he.is
  refine run_buildSlice W ts e vs.length _ _ inf zv ht hi hz (by rw [hsize]; omega) (by rw [hsize]; omega) ?_
  rw [hsize]
  have := Great.fill_whole (s := 1) (by decide) vs ((Array.range (vs.length * 1)).map (zv.cells[· % zv.cells.size]!)) (by
    intro v hm
    rw [hv v hm]; rfl) (by rw [Array.size_map, Array.size_range])
  rw [flat_cells hv] at this
  exact this
theorem wp_build_vals {o : Oper} {a : Act} {W : World} {K : Act → World → Prop} {Q : Exit → Act → World → Prop} {ts : TypeId} {n : Nat} {ps : Array (Nat × Operand)} (ho : o.op = .buildSlice ts n ps) {e : TypeId} {bytes : Nat} (he : ElemIs e 1 bytes) (ht : Try.prog.underlying ts = some (.slice e)) (vs : List Value) (hv : ∀ v ∈ vs, v.cells = #[v]) (h0 : 0 < vs.length) (h16 : vs.length ≤ 256) (hn : n = vs.length)
    (hp : ps.map (fun x => (x.1, a.eval x.2)) = ((vs.zipIdx 0).map fun x => (x.2, x.1)).toArray)
    (h : K (a.put o.dst (.slice (some ⟨W.heap.size, 0, none⟩) n n)) (W.alloc (.cells vs.toArray e))) : o.wp Try.prog a W K Q := by
  subst hn
  have hr := run_build_vals he ht vs hv h0 h16 W
  rw [← hp] at hr
  unfold Oper.wp execOp
  simp only [ho, Sem.run_bind, hr, Result.andThen_ok, Sem.run_pure]
  exact h
theorem wpList_build_vals (ts : TypeId) (n : Nat) {ps : Array (Nat × Operand)} {ops : Array Oper} {rest : List Oper} {a : Act} {W : World} {Q : Exit → Act → World → Prop} {d : Option Tmp} {ty : TypeId} {pos : String} {aft : Array Edge} {e : TypeId} {bytes : Nat} (he : ElemIs e 1 bytes) (ht : Try.prog.underlying ts = some (.slice e)) (vs : List Value) (hv : ∀ v ∈ vs, v.cells = #[v]) (h0 : 0 < vs.length) (h16 : vs.length ≤ 256) (hn : n = vs.length)
    (hp : ps.map (fun x => (x.1, a.eval x.2)) = ((vs.zipIdx 0).map fun x => (x.2, x.1)).toArray)
    (h : wpList Try.prog ops Q rest (a.put d (.slice (some ⟨W.heap.size, 0, none⟩) n n)) (W.alloc (.cells vs.toArray e))) :
    wpList Try.prog ops Q ({ dst := d, op := .buildSlice ts n ps, type := ty, pos := pos, after := aft, guard := none } :: rest) a W :=
  wpList_plain rfl fun _ hK => wp_build_vals rfl he ht vs hv h0 h16 hn hp (hK _ _ h)
end Go.Proofs.Ytooaldglgkjjgaa
/- a slice that reads as these cells; what reads is appended to a slice of the walk's own -/
namespace Go.Proofs.Ytooaldglgkjjgaa
open Go.RowKit
set_option maxRecDepth 20000

/-- a slice that reads as these cells -/
def SlRd (v : Value) (z n : Nat) (xs : List Value) (R : List Rng) : Prop :=
  ∃ a cap, v = .slice a n cap ∧ xs.length = n * z ∧ n ≤ cap ∧ cap ≤ maxLen ∧ (0 < n → ∃ g off, a = some ⟨g, off, none⟩ ∧ (g, off, xs) ∈ R) ∧ (a = none → cap = 0)
theorem SlRd.mono {v : Value} {z n : Nat} {xs : List Value} {R S : List Rng} (h : SlRd v z n xs R) (hs : ∀ r ∈ R, r ∈ S) : SlRd v z n xs S := by
  obtain ⟨a, cap, h1, h2, h3, h4, h5, h8⟩ := h
  refine ⟨a, cap, h1, h2, h3, h4, fun h => ?_, h8⟩
  obtain ⟨g, off, h6, h7⟩ := h5 h
  exact ⟨g, off, h6, hs _ h7⟩
theorem SlRd.nil (z : Nat) (R : List Rng) : SlRd (.slice none 0 0) z 0 [] R := ⟨none, 0, rfl, by simp, Nat.le_refl _, Nat.zero_le _, fun h => absurd h (by decide), fun _ => rfl⟩
/-- a slice of the walk's own, handed out, reads -/
theorem own_reads {B : Nat} {W : World} {e : TypeId} {z n : Nat} {v : Value} {xs : List Value} (h : W.ownsRow B e z v n xs) : ∃ R, SlRd v z n xs R ∧ RdIn W R ∧ (∀ r ∈ R, B ≤ r.1 ∧ v.ownBlock = some r.1) := by
  have hl := h.1
  rcases h.2 with ⟨hv, h0⟩ | ⟨g, cap, cur, hv, hB, hg, h1, h2, h3⟩
  · subst h0
    have : xs = [] := List.eq_nil_of_length_eq_zero (by rw [hl]; omega)
    subst this
    exact ⟨[], by rw [hv]; exact SlRd.nil z [], RdIn.nil W, by simp⟩
  · have hr : W.rangeAt g 0 xs := own_range h hv 0 xs (fun j u hu => by rw [Nat.zero_add]; exact hu)
    refine ⟨[(g, 0, xs)], ⟨_, cap, hv, hl, h1, h2, fun _ => ⟨g, 0, rfl, List.mem_singleton.2 rfl⟩, fun h => by cases h⟩, fun r hr' => ?_, fun r hr' => ?_⟩
    · obtain rfl := List.mem_singleton.1 hr'
      exact ⟨(Array.getElem?_eq_some_iff.1 hg).1, hr⟩
    · obtain rfl := List.mem_singleton.1 hr'
      exact ⟨hB, by rw [hv]; rfl⟩
/-- what reads is appended to a slice of the walk's own -/
theorem Hp.appendSl {w W : World} {L : List Th} (h : Hp w L W) (i : Nat) {v : Value} {e : TypeId} {z n : Nat} {xs : List Value} (ei : L[i]? = some (.sl v e z n xs)) {x : Value} {m : Nat} {ys : List Value} {R : List Rng} (hx : SlRd x z m ys R) (hR : RdIn W R)
    (ts : TypeId) (ty : TypeId) {bytes : Nat} (ht : Try.prog.underlying ts = some (.slice e)) (he : ElemIs e z bytes) (h1 : ∀ u ∈ ys, u.oneCell' = true) (hn : n + m ≤ 1048576) :
    ∃ v' W', (Builtin.append_ #[ts, ts] ty #[v, x]).run Try.prog W = .ok v' W' ∧ Hp w (L.set i (.sl v' e z (n + m) (xs ++ ys))) W' := by
  obtain ⟨inf, zv, hi, hz, hsize, hby, hzs⟩ := he.is
  have hroom := he.room
  obtain ⟨a, cap, rfl, hl, hmc, hcm, hg, h0⟩ := hx
  cases a with
  | none =>
    have hc := h0 rfl
    have hm : m = 0 := by omega
    subst hc hm
    have hys : ys = [] := List.eq_nil_of_length_eq_zero (by rw [hl]; omega)
    subst hys
    refine ⟨v, W, run_append_owned_none (P := Try.prog) W w.heap.size ts ty e inf z ht hi v n xs (h.own i ei), ?_⟩
    rw [List.append_nil, Nat.add_zero]
    have : L.set i (.sl v e z n xs) = L := by
      apply List.ext_getElem?
      intro j
      rw [List.getElem?_set]
      split
      · next hij =>
        subst hij
        rw [ei]
        split
        · rfl
        · next hlt => rw [List.getElem?_eq_none (by omega)] at ei; cases ei
      · rfl
    rw [this]
    exact h
  | some a =>
    have hcell : ∀ q u, ys[q]? = some u → W.cell? (a.add q) = some u := fun q u hu => by
      have hq := (List.getElem?_eq_some_iff.1 hu).1
      have hm : 0 < m := by
        rcases Nat.eq_zero_or_pos m with h | h
        · rw [h, Nat.zero_mul] at hl; omega
        · exact h
      obtain ⟨g, off, ha, hmem⟩ := hg hm
      obtain rfl := Option.some.inj ha
      rw [Addr.add_mid]
      exact (hR _ hmem).2 q u hu
    obtain ⟨v', W', hr, h2, h3, h4, h5⟩ := run_append_own_at (P := Try.prog) W w.heap.size ts ty e inf zv z bytes ht hi hz hsize hby hzs he.pos v n xs (h.own i ei) a m cap ys hl hcell h1 (by unfold maxLen; omega) (by
      have := Nat.mul_le_mul hn hroom
      omega) h.old.size
    exact ⟨v', W', hr, h.grown i ei h2 h3 h5⟩
theorem wp_append_sl {o : Oper} {a : Act} {w W : World} {K : Act → World → Prop} {Q : Exit → Act → World → Prop} {L : List Th} (h : Hp w L W) (s x : Operand) (ts : TypeId) (ho : o.op = .call { callee := .builtin .append, args := #[s, x], argTypes := #[ts, ts] })
    (i : Nat) {v : Value} {e : TypeId} {z n : Nat} {xs : List Value} (ei : L[i]? = some (.sl v e z n xs)) {xv : Value} {m : Nat} {ys : List Value} {R : List Rng} (hxv : SlRd xv z m ys R) (hR : RdIn W R) {bytes : Nat} (ht : Try.prog.underlying ts = some (.slice e)) (he : ElemIs e z bytes)
    (hs : a.eval s = v) (hx : a.eval x = xv) (h1 : ∀ u ∈ ys, u.oneCell' = true) (hn : n + m ≤ 1048576)
    (hk : ∀ v' W', Hp w (L.set i (.sl v' e z (n + m) (xs ++ ys))) W' → K (a.put o.dst v') W') : o.wp Try.prog a W K Q := by
  obtain ⟨v', W', hr, h2⟩ := h.appendSl i ei hxv hR ts o.type ht he h1 hn
  unfold Oper.wp execOp
  simp only [ho, resolve, invoke, builtin, Sem.run_bind, Sem.run_pure, Result.andThen_ok, List.map_toArray, List.map_cons, List.map_nil, hs, hx, hr]
  exact hk v' W' h2
theorem wpList_append_sl {ops : Array Oper} {rest : List Oper} {a : Act} {w W : World} {Q : Exit → Act → World → Prop} {d : Option Tmp} {ty : TypeId} {pos : String} {aft : Array Edge} {L : List Th} (h : Hp w L W) (s x : Operand) (ts : TypeId)
    (i : Nat) {v : Value} {e : TypeId} {z n : Nat} {xs : List Value} (ei : L[i]? = some (.sl v e z n xs)) {xv : Value} {m : Nat} {ys : List Value} {R : List Rng} (hxv : SlRd xv z m ys R) (hR : RdIn W R) {bytes : Nat} (ht : Try.prog.underlying ts = some (.slice e)) (he : ElemIs e z bytes)
    (hs : a.eval s = v) (hx : a.eval x = xv) (h1 : ∀ u ∈ ys, u.oneCell' = true) (hn : n + m ≤ 1048576)
    (hk : ∀ v' W', Hp w (L.set i (.sl v' e z (n + m) (xs ++ ys))) W' → wpList Try.prog ops Q rest (a.put d v') W') :
    wpList Try.prog ops Q ({ dst := d, op := .call { callee := .builtin .append, args := #[s, x], argTypes := #[ts, ts] }, type := ty, pos := pos, after := aft, guard := none } :: rest) a W :=
  wpList_plain rfl fun _ hK => wp_append_sl h s x ts rfl i ei hxv hR ht he hs hx h1 hn (fun v' W' p => hK _ _ (hk v' W' p))
theorem SlRd.open {v : Value} {z n : Nat} {xs : List Value} {R : List Rng} (h : SlRd v z n xs R) {w : World} (hR : RdIn w R) :
    ∃ a cap, v = .slice a n cap ∧ n ≤ cap ∧ cap ≤ maxLen ∧ Hid (0 < n → ∃ g off, a = some ⟨g, off, none⟩ ∧ ∀ W, Below w.heap.size w W → W.rangeAt g off xs) := by
  obtain ⟨a, cap, h1, h2, h3, h4, h5, _⟩ := h
  refine ⟨a, cap, h1, h3, h4, fun h0 => ?_⟩
  obtain ⟨g, off, h6, h7⟩ := h5 h0
  refine ⟨g, off, h6, fun W hb => ?_⟩
  exact (hR.below hb _ h7).2
theorem all_take {α : Type} {l : List α} {f : α → Bool} {k : Nat} (h : k < l.length) (ha : (l.take k).all f = true) (hx : f l[k] = true) : (l.take (k + 1)).all f = true := by
  rw [List.take_succ_eq_append_getElem h, List.all_append, ha]
  simp [hx]
theorem elem_of {t : TypeId} {z : Value} {s b : Nat} (h : (Try.prog.info? t).map (fun i => (i.zero, i.size, i.bytes)) = some (some z, s, b)) (hz : z.cells.size = s) (h1 : 0 < s) (h2 : s ≤ 65536) (h3 : b ≤ 65536) : ElemIs t s b := by
  obtain ⟨i, e1, e2, e3, e4⟩ := info_of h
  exact ⟨⟨i, z, e1, e2, e3, e4, hz⟩, h1, h2, h3⟩
theorem elem_i : ElemIs 3 1 8 := elem_of (z := .int .i64 0) (by kernel_rfl) rfl (by decide) (by decide) (by decide)
theorem own_slice {B : Nat} {W : World} {e : TypeId} {z n : Nat} {v : Value} {xs : List Value} (h : W.ownsRow B e z v n xs) : ∃ a c, v = .slice a n c := by
  rcases h.2 with ⟨rfl, h0⟩ | ⟨g, cap, cur, rfl, _⟩
  · exact ⟨none, 0, by rw [h0]⟩
  · exact ⟨_, _, rfl⟩
end Go.Proofs.Ytooaldglgkjjgaa
/- grants, locks and lock tables as values of the program -/
namespace Go.Proofs.Ytooaldglgkjjgaa
open Go.RowKit
set_option maxRecDepth 20000

structure Lok where
  page : Int
  slot : Int
def lkCells (k : Lok) : List Value := [.int .i64 k.page, .int .i64 k.slot]
def grCells (g : Gr) : List Value := [.int .i64 g.tx, .int .i64 g.page, .int .i64 g.slot, .int .i64 g.mode]
def tbCells (h w : Value) : List Value := [h, w]
abbrev Gr.lock (g : Gr) : Lok := ⟨g.page, g.slot⟩
structure GoodLk (k : Lok) : Prop where
  page : (Lit.int .i64 k.page).wf = true
  slot : (Lit.int .i64 k.slot).wf = true
structure GoodGr (g : Gr) : Prop where
  tx : (Lit.int .i64 g.tx).wf = true
  page : (Lit.int .i64 g.page).wf = true
  slot : (Lit.int .i64 g.slot).wf = true
  mode : (Lit.int .i64 g.mode).wf = true
structure GoodTb (t : Tb) : Prop where
  held : ∀ g ∈ t.held, GoodGr g
  wait : ∀ g ∈ t.wait, GoodGr g
  few : t.held.length ≤ 100000 ∧ t.wait.length ≤ 100000
theorem GoodGr.lock {g : Gr} (h : GoodGr g) : GoodLk g.lock := ⟨h.page, h.slot⟩
theorem grNil_good : GoodGr grNil := ⟨by decide, by decide, by decide, by decide⟩
theorem lk_wf {n : Int} (h : -9223372036854775808 ≤ n ∧ n ≤ 9223372036854775807) : (Lit.int .i64 n).wf = true := by
  show (decide (IntKind.i64.min ≤ n) && decide (n ≤ IntKind.i64.max)) = true
  rw [Bool.and_eq_true, decide_eq_true_eq, decide_eq_true_eq]
  exact h
theorem GrOk.good {g : Gr} (h : GrOk g) : GoodGr g := by
  obtain ⟨h1, h2, h3, h4⟩ := h
  exact ⟨lk_wf (by omega), lk_wf (by omega), lk_wf (by omega), lk_wf (by omega)⟩
theorem TbIn.good {t : Tb} (h : TbIn t) (hf : t.held.length + t.wait.length ≤ 2048) : GoodTb t := ⟨fun g hg => (h.held.ok g hg).good, fun g hg => (h.wait.ok g hg).1.good, by omega, by omega⟩
theorem TbOk.good {t : Tb} (h : TbOk t) : GoodTb t := h.tin.good (by have := h.few; omega)
theorem grCells_length (g : Gr) : (grCells g).length = 4 := rfl
theorem lkCells_length (g : Lok) : (lkCells g).length = 2 := rfl
theorem oneCell_gr (g : Gr) : ((grCells g).toArray).all (·.oneCell') = true := by kernel_rfl
theorem oneCell_tb (a b : Option Addr) (n c m d : Nat) : ((tbCells (.slice a n c) (.slice b m d)).toArray).all (·.oneCell') = true := by kernel_rfl
theorem info_gr : (Try.prog.info? 29).map (·.size) = some 4 := by kernel_rfl
theorem info_lk : (Try.prog.info? 27).map (·.size) = some 2 := by kernel_rfl
theorem info_tb : (Try.prog.info? 25).map (·.size) = some 2 := by kernel_rfl
theorem under_gr : ∃ fs, Try.prog.underlying 29 = some (.struct fs) := ⟨_, Try.underlying29⟩
theorem under_lk : ∃ fs, Try.prog.underlying 27 = some (.struct fs) := ⟨_, Try.underlying27⟩
theorem under_tb : ∃ fs, Try.prog.underlying 25 = some (.struct fs) := ⟨_, Try.underlying25⟩
theorem under_grs : Try.prog.underlying 23 = some (.slice 29) := Try.underlying23
theorem elem_gr : ElemIs 29 4 32 := elem_of (z := .agg (grCells grNil).toArray) (by kernel_rfl) rfl (by decide) (by decide) (by decide)
theorem alloc_gr (w : World) : Sem.run Try.prog (Instr.alloc 29 true (.tuple #[])) w = .ok (.pointer (some ⟨w.heap.size, 0, none⟩)) (w.alloc (.cells (grCells grNil).toArray 29)) := by kernel_rfl
theorem alloc_tb (w : World) : Sem.run Try.prog (Instr.alloc 25 true (.tuple #[])) w = .ok (.pointer (some ⟨w.heap.size, 0, none⟩)) (w.alloc (.cells (tbCells (.slice none 0 0) (.slice none 0 0)).toArray 25)) := by kernel_rfl
theorem build_gr0 (W : World) : Sem.run Try.prog (Instr.build 29 #[]) W = .ok (.agg (grCells grNil).toArray) W := by kernel_rfl
theorem build_tb0 (W : World) : Sem.run Try.prog (Instr.build 25 #[]) W = .ok (.agg (tbCells (.slice none 0 0) (.slice none 0 0)).toArray) W := by kernel_rfl
theorem mid_lk (g : Gr) : ∀ j v, (lkCells g.lock)[j]? = some v → (grCells g)[1 + j]? = some v
  | 0, _, h => h | 1, _, h => h | j + 2, v, h => by simp [lkCells] at h
def lkLits (k : Lok) : List Lit := [.int .i64 k.page, .int .i64 k.slot]
theorem lkLits_iff (a b : Lok) : lkLits a = lkLits b ↔ a = b := by
  constructor
  · intro h
    simp only [lkLits, List.cons.injEq, Lit.int.injEq, true_and, and_true] at h
    obtain ⟨h1, h2⟩ := h
    obtain ⟨a1, a2⟩ := a
    obtain ⟨b1, b2⟩ := b
    simp only at h1 h2
    rw [h1, h2]
  · rintro rfl; rfl
theorem cellsOf_lk : Try.prog.cellsOf 27 = 2 := by kernel_rfl
theorem lits_lk (d : Nat) (k : Lok) (h : GoodLk k) : Try.prog.keyLits (d + 2) 27 (lkCells k) = some (lkLits k) := by
  rw [show d + 2 = (d + 1) + 1 from rfl]
  unfold Program.keyLits
  rw [Try.underlying27]
  simp only
  rw [if_pos ⟨by rw [cellsOf_lk]; rfl, by kernel_rfl⟩]
  have h1 := lits_int d k.page h.page
  have h2 := lits_int d k.slot h.slot
  unfold lkCells
  simp only [List.mapM_cons, List.mapM_nil, cellsOf_int, List.drop_zero, List.take_succ_cons, List.take_zero, List.drop_succ_cons, h1, h2]
  simp [lkLits, List.flatten, pure, bind]
theorem lk_formed (k : Lok) : (Value.agg (lkCells k).toArray).formed Try.prog 27 = true := by
  unfold Value.formed
  rw [Try.underlying27]
  simp only
  rw [List.size_toArray, lkCells_length, cellsOf_lk]
  rfl
theorem equal_lk (a b : Lok) (ha : GoodLk a) (hb : GoodLk b) (w : World) : Sem.run Try.prog (Op.equal 27 (.agg (lkCells a).toArray) (.agg (lkCells b).toArray)) w = .ok (sameV a b) w :=
  equal_lits 27 a b _ _ _ _ (by kernel_rfl) (lk_formed a) (lk_formed b) (lits_lk 2 a ha) (lits_lk 2 b hb) (lkLits_iff a b) w
def grLits (g : Gr) : List Lit := [.int .i64 g.tx, .int .i64 g.page, .int .i64 g.slot, .int .i64 g.mode]
theorem grLits_iff (a b : Gr) : grLits a = grLits b ↔ a = b := by
  constructor
  · intro h
    simp only [grLits, List.cons.injEq, Lit.int.injEq, true_and, and_true] at h
    exact Gr.ext' h.1 h.2.1 h.2.2.1 h.2.2.2
  · rintro rfl; rfl
theorem cellsOf_gr : Try.prog.cellsOf 29 = 4 := by kernel_rfl
theorem lits_gr (d : Nat) (g : Gr) (h : GoodGr g) : Try.prog.keyLits (d + 3) 29 (grCells g) = some (grLits g) := by
  rw [show d + 3 = (d + 2) + 1 from rfl]
  unfold Program.keyLits
  rw [Try.underlying29]
  simp only
  rw [if_pos ⟨by rw [cellsOf_gr]; rfl, by kernel_rfl⟩]
  have h1 := lits_int (d + 1) g.tx h.tx
  have h2 := lits_lk d g.lock h.lock
  have h3 := lits_int (d + 1) g.mode h.mode
  simp only [lkCells] at h2
  unfold grCells
  simp only [List.mapM_cons, List.mapM_nil, cellsOf_int, cellsOf_lk, List.drop_zero, List.take_succ_cons, List.take_zero, List.drop_succ_cons, h1, h2, h3]
  simp [grLits, lkLits, List.flatten, pure, bind]
theorem gr_formed (g : Gr) : (Value.agg (grCells g).toArray).formed Try.prog 29 = true := by
  unfold Value.formed
  rw [Try.underlying29]
  simp only
  rw [List.size_toArray, grCells_length, cellsOf_gr]
  rfl
theorem equal_gr (a b : Gr) (ha : GoodGr a) (hb : GoodGr b) (w : World) : Sem.run Try.prog (Op.equal 29 (.agg (grCells a).toArray) (.agg (grCells b).toArray)) w = .ok (sameV a b) w :=
  equal_lits 29 a b _ _ _ _ (by kernel_rfl) (gr_formed a) (gr_formed b) (lits_gr 1 a ha) (lits_gr 1 b hb) (grLits_iff a b) w
def grRow (l : List Gr) : List Value := l.flatMap grCells
theorem grRow_length (l : List Gr) : (grRow l).length = l.length * 4 := by
  induction l with
  | nil => rfl
  | cons e l ih => unfold grRow at ih ⊢; rw [List.flatMap_cons, List.length_append, ih, grCells_length, List.length_cons]; omega
theorem grRow_at : ∀ (l : List Gr) (k : Nat) (e : Gr), l[k]? = some e → ∀ j v, (grCells e)[j]? = some v → (grRow l)[k * 4 + j]? = some v
  | [], k, e, h => by simp at h
  | x :: l, 0, e, h => by
    obtain rfl : x = e := by simpa using h
    intro j v hv
    unfold grRow
    rw [List.flatMap_cons, Nat.zero_mul, Nat.zero_add, List.getElem?_append_left (List.getElem?_eq_some_iff.1 hv).1]
    exact hv
  | x :: l, k + 1, e, h => by
    intro j v hv
    unfold grRow
    rw [List.flatMap_cons, show (k + 1) * 4 + j = 4 + (k * 4 + j) from by omega, List.getElem?_append_right (by rw [grCells_length]; omega), grCells_length, Nat.add_sub_cancel_left]
    exact grRow_at l k e (by simpa using h) j v hv
theorem grRow_append (a b : List Gr) : grRow (a ++ b) = grRow a ++ grRow b := by unfold grRow; rw [List.flatMap_append]
theorem grRow_one (e : Gr) : grRow [e] = grCells e := by unfold grRow; rw [List.flatMap_cons, List.flatMap_nil, List.append_nil]
theorem one_gr (e : Gr) : ∀ u ∈ grCells e, u.oneCell' = true := by
  intro u hu
  simp only [grCells, List.mem_cons, List.not_mem_nil, or_false] at hu
  rcases hu with rfl | rfl | rfl | rfl <;> rfl
theorem one_grs (l : List Gr) : ∀ u ∈ grRow l, u.oneCell' = true := by
  intro u hu
  obtain ⟨e, _, he⟩ := List.mem_flatMap.1 hu
  exact one_gr e u he
theorem grRow_drop (l : List Gr) (k : Nat) : grRow (l.drop k) = (grRow l).drop (k * 4) := by
  induction k generalizing l with
  | zero => simp
  | succ k ih =>
    cases l with
    | nil => simp [grRow]
    | cons x l =>
      rw [List.drop_succ_cons, ih]
      unfold grRow
      rw [List.flatMap_cons, show (k + 1) * 4 = (grCells x).length + k * 4 from by rw [grCells_length]; omega, List.drop_append]
      simp
theorem grRow_take (l : List Gr) (k : Nat) : grRow (l.take k) = (grRow l).take (k * 4) := by
  have h1 := List.take_append_drop k l
  have h2 : grRow l = grRow (l.take k) ++ (grRow l).drop (k * 4) := by
    rw [← grRow_drop, ← grRow_append, h1]
  rcases Nat.lt_or_ge l.length k with h | h
  · rw [List.take_of_length_le (by omega), List.take_of_length_le (by rw [grRow_length]; omega)]
  · have h3 : (grRow (l.take k)).length = k * 4 := by rw [grRow_length, List.length_take]; omega
    conv => rhs; rw [h2]
    rw [← h3, List.take_left']
    rfl
theorem range_part {W : World} {b o k : Nat} {cs ds : List Value} (h : W.rangeAt b o cs) (hv : ∀ j v, ds[j]? = some v → cs[k + j]? = some v) : W.rangeAt b (o + k) ds := fun j v hj => by rw [Nat.add_assoc]; exact h (k + j) v (hv j v hj)
theorem elem_rng {W : World} {g off i : Nat} {l : List Gr} {x : Gr} (h : W.rangeAt g off (grRow l)) (hx : l[i]? = some x) : W.rangeAt g (off + i * 4) (grCells x) := fun j v hv => by rw [Nat.add_assoc]; exact h _ _ (grRow_at l i x hx j v hv)
/-- a slice that reads as these grants -/
def GrRd (v : Value) (l : List Gr) (R : List Rng) : Prop := SlRd v 4 l.length (grRow l) R
/-- a table that reads as this one -/
def TbRd (h w : Value) (t : Tb) (R : List Rng) : Prop := GrRd h t.held R ∧ GrRd w t.wait R
def TbPost (w : World) (R0 : List Rng) (t : Tb) (e : Ending) (w' : World) : Prop :=
  ∃ h v R, e = .returned (.agg (tbCells h v).toArray) ∧ TbRd h v t R ∧ RdIn w' R ∧ (∀ r ∈ R, w.heap.size ≤ r.1 ∨ r.1 ∈ R0.map (·.1)) ∧ Below w.heap.size w w'
def TbPost3 (w : World) (R0 : List Rng) (x : Tb × Bool × Int) (e : Ending) (w' : World) : Prop :=
  ∃ h v R, e = .returned (.tuple #[.agg (tbCells h v).toArray, .bool x.2.1, .int .i64 x.2.2]) ∧ TbRd h v x.1 R ∧ RdIn w' R ∧ (∀ r ∈ R, w.heap.size ≤ r.1 ∨ r.1 ∈ R0.map (·.1)) ∧ Below w.heap.size w w'
theorem hp_snoc {w W : World} {A : List Th} {v : Value} {l : List Gr} {x : Gr} (h : Hp w (A ++ [.sl v 29 4 (l.length + 1) (grRow l ++ grCells x)]) W) : Hp w (A ++ [.sl v 29 4 (l ++ [x]).length (grRow (l ++ [x]))]) W := by
  rw [grRow_append, grRow_one, List.length_append]; exact h
theorem TbRd.nil (R : List Rng) : TbRd (.slice none 0 0) (.slice none 0 0) tbNil R := ⟨SlRd.nil _ _, SlRd.nil _ _⟩
theorem TbPost3.none {w w' : World} {R0 : List Rng} {x : Tb × Bool × Int} {n : Int} (hx : x = (tbNil, false, n)) (hb : Below w.heap.size w w') : TbPost3 w R0 x (.returned (.tuple #[.agg (tbCells (.slice none 0 0) (.slice none 0 0)).toArray, .bool false, .int .i64 n])) w' := by
  subst hx
  exact ⟨_, _, [], rfl, TbRd.nil _, RdIn.nil _, by simp, hb⟩
theorem TbPost3.same {w w' : World} {h v : Value} {t : Tb} {R : List Rng} {x : Tb × Bool × Int} {b : Bool} {n : Int} (hx : x = (t, b, n)) (ht : TbRd h v t R) (hR : RdIn w R) (hb : Below w.heap.size w w') : TbPost3 w R x (.returned (.tuple #[.agg (tbCells h v).toArray, .bool b, .int .i64 n])) w' := by
  subst hx
  exact ⟨_, _, R, rfl, ht, hR.below hb, fun r hr => .inr (List.mem_map.2 ⟨r, hr, rfl⟩), hb⟩
theorem TbPost.same {w w' : World} {h v : Value} {t x : Tb} {R : List Rng} (hx : x = t) (ht : TbRd h v t R) (hR : RdIn w R) (hb : Below w.heap.size w w') : TbPost w R x (.returned (.agg (tbCells h v).toArray)) w' := by
  subst hx
  exact ⟨_, _, R, rfl, ht, hR.below hb, fun r hr => .inr (List.mem_map.2 ⟨r, hr, rfl⟩), hb⟩
end Go.Proofs.Ytooaldglgkjjgaa
/- the small functions on grants: the order, conflicts, validity -/
namespace Go.Proofs.Ytooaldglgkjjgaa
open Go.RowKit
set_option maxRecDepth 20000
set_option linter.unusedSimpArgs false
set_option linter.unusedVariables false

theorem beq_dec' (a b : Int) : (a == b) = decide (a = b) := by rw [Bool.eq_iff_iff]; simp
theorem eq_facts {a b : Int} (h : a = b) : (a == b) = true ∧ (a != b) = false := ⟨beq_iff_eq.2 h, by subst h; simp⟩
theorem ne_facts {a b : Int} (h : ¬ a = b) : (a == b) = false ∧ (a != b) = true := ⟨by simp [h], by simp [h]⟩
end Go.Proofs.Ytooaldglgkjjgaa
/- what is held in which mode (the reference, chapter 8) -/
namespace Go.Proofs.Ytooaldglgkjjgaa
open Go.RowKit
set_option maxRecDepth 20000
set_option linter.unusedSimpArgs false
set_option linter.unusedVariables false
theorem lock_same (x : Gr) (k : Lok) : sameV x.lock k = (decide (x.page = k.page) && decide (x.slot = k.slot)) := by
  rw [Bool.eq_iff_iff, sameV_iff, Bool.and_eq_true, decide_eq_true_eq, decide_eq_true_eq]
  exact ⟨fun h => ⟨congrArg Lok.page h, congrArg Lok.slot h⟩, fun h => by cases k; show Lok.mk _ _ = Lok.mk _ _; simp only at h; rw [h.1, h.2]⟩
end Go.Proofs.Ytooaldglgkjjgaa
/- when a table is valid, grant by grant -/
namespace Go.Proofs.Ytooaldglgkjjgaa
set_option maxRecDepth 20000

theorem held_snoc {a : List Gr} {x : Gr} (h : HeldOk a) (hx : GrOk x) (hu : ∀ y, a.getLast? = some y → GLt y x) (hf : ∀ y ∈ a, ¬ Conf y x) : HeldOk (a ++ [x]) := by
  have hall : ∀ y ∈ a, GLt y x := by
    rcases List.eq_nil_or_concat a with rfl | ⟨b, z, rfl⟩
    · intro y hy; cases hy
    · have hz := hu z (by simp)
      have hp := h.up
      rw [List.concat_eq_append, List.pairwise_append] at hp
      intro y hy
      rw [List.concat_eq_append] at hy
      rcases List.mem_append.1 hy with hy | hy
      · exact (hp.2.2 y hy z (by simp)).trans hz
      · rw [List.mem_singleton.1 hy]; exact hz
  refine ⟨fun g hg => ?_, ?_, ?_⟩
  · rcases List.mem_append.1 hg with hg | hg
    · exact h.ok g hg
    · rw [List.mem_singleton.1 hg]; exact hx
  · rw [List.pairwise_append]
    exact ⟨h.up, List.pairwise_singleton _ _, fun y hy z hz => by rw [List.mem_singleton.1 hz]; exact hall y hy⟩
  · rw [List.pairwise_append]
    exact ⟨h.free, List.pairwise_singleton _ _, fun y hy z hz => by rw [List.mem_singleton.1 hz]; exact hf y hy⟩
theorem heldOk_nil : HeldOk [] := ⟨fun g hg => (by cases hg), .nil, .nil⟩
theorem lk_take_snoc {l : List Gr} {i : Nat} {x : Gr} (hx : l[i]? = some x) : l.take (i + 1) = l.take i ++ [x] := by
  have hlt := (List.getElem?_eq_some_iff.1 hx).1
  rw [List.take_succ_eq_append_getElem hlt, (List.getElem?_eq_some_iff.1 hx).2]
theorem last_take {l : List Gr} {i p : Nat} (hip : i = p + 1) {y : Gr} (hy : l[p]? = some y) : (l.take i).getLast? = some y := by
  subst hip; rw [lk_take_snoc hy]; simp
theorem wait_snoc {h a : List Gr} {x : Gr} (k : WaitOk h a) (hx : GrOk x) (hm : modeR h x.tx x.page x.slot < x.mode) (hf : ∀ y ∈ a, y.tx ≠ x.tx) : WaitOk h (a ++ [x]) := by
  refine ⟨fun g hg => ?_, ?_⟩
  · rcases List.mem_append.1 hg with hg | hg
    · exact k.ok g hg
    · rw [List.mem_singleton.1 hg]; exact ⟨hx, hm⟩
  · rw [List.pairwise_append]
    exact ⟨k.one, List.pairwise_singleton _ _, fun y hy z hz => by rw [List.mem_singleton.1 hz]; exact hf y hy⟩
theorem waitOk_nil (h : List Gr) : WaitOk h [] := ⟨fun g hg => (by cases hg), .nil⟩
theorem mem_take_of {l : List Gr} {i : Nat} {P : Gr → Prop} (hf : ∀ k, k < i → ∀ z, l[k]? = some z → P z) : ∀ z ∈ l.take i, P z := by
  intro z hz
  obtain ⟨k, hk, hkz⟩ := List.getElem_of_mem hz
  refine hf k (by rw [List.length_take] at hk; omega) z ?_
  rw [← hkz, List.getElem_take, List.getElem?_eq_getElem]
end Go.Proofs.Ytooaldglgkjjgaa
/- parts of a list of grants read; what is read, put together -/
namespace Go.Proofs.Ytooaldglgkjjgaa
open Go.RowKit
set_option maxRecDepth 20000

theorem gr_take {a : Option Addr} {cap : Nat} {l : List Gr} {R : List Rng} (h : GrRd (.slice a l.length cap) l R) (k : Nat) (hk : k ≤ l.length) :
    ∃ R', GrRd (.slice a k cap) (l.take k) R' ∧ (∀ W, RdIn W R → RdIn W R') ∧ ∀ r ∈ R', r.1 ∈ R.map (·.1) := by
  obtain ⟨a', cap', e, h2, h3, h4, h5, h6⟩ := h
  obtain ⟨rfl, rfl⟩ : a = a' ∧ cap = cap' := by simpa using e
  have hlen : (l.take k).length = k := by rw [List.length_take]; omega
  rcases Nat.eq_zero_or_pos k with h0 | h0
  · refine ⟨[], ⟨a, cap, by rw [hlen], by rw [grRow_length], by omega, h4, fun h => by omega, h6⟩, fun W _ => RdIn.nil W, fun r hr => by cases hr⟩
  · obtain ⟨g, off, rfl, hm⟩ := h5 (by omega)
    refine ⟨[(g, off, grRow (l.take k))], ⟨_, cap, by rw [hlen], by rw [grRow_length], by omega, h4, fun _ => ⟨g, off, rfl, List.mem_singleton.2 rfl⟩, h6⟩, fun W hR r hr => ?_, fun r hr => ?_⟩
    · obtain rfl := List.mem_singleton.1 hr
      obtain ⟨h7, h8⟩ := hR _ hm
      refine ⟨h7, fun j u hu => h8 j u ?_⟩
      rw [grRow_take] at hu
      rw [List.getElem?_take] at hu
      split at hu
      · exact hu
      · cases hu
    · obtain rfl := List.mem_singleton.1 hr
      exact List.mem_map.2 ⟨_, hm, rfl⟩
theorem gr_drop {a : Option Addr} {cap : Nat} {l : List Gr} {R : List Rng} (h : GrRd (.slice a l.length cap) l R) (k : Nat) (hk : k ≤ l.length) :
    ∃ R', GrRd (.slice (if cap = k then a else Option.map (fun x => Addr.add x (k * 4)) a) (l.length - k) (cap - k)) (l.drop k) R' ∧ (∀ W, RdIn W R → RdIn W R') ∧ ∀ r ∈ R', r.1 ∈ R.map (·.1) := by
  obtain ⟨a', cap', e, h2, h3, h4, h5, h6⟩ := h
  obtain ⟨rfl, rfl⟩ : a = a' ∧ cap = cap' := by simpa using e
  have hlen : (l.drop k).length = l.length - k := List.length_drop ..
  rcases Nat.eq_zero_or_pos (l.length - k) with h0 | h0
  · refine ⟨[], ⟨_, _, by rw [hlen], by rw [grRow_length], by rw [hlen]; omega, by omega, fun h => by omega, fun h => ?_⟩, fun W _ => RdIn.nil W, fun r hr => by cases hr⟩
    by_cases hc : cap = k
    · omega
    · rw [if_neg hc] at h
      have : a = none := by simpa using h
      have := h6 this
      omega
  · obtain ⟨g, off, rfl, hm⟩ := h5 (by omega)
    have hc : ¬ cap = k := by omega
    rw [if_neg hc]
    refine ⟨[(g, off + k * 4, grRow (l.drop k))], ⟨_, _, by rw [hlen], by rw [grRow_length], by rw [hlen]; omega, by omega, fun _ => ⟨g, off + k * 4, by rw [Option.map_some, Addr.add_mid], List.mem_singleton.2 rfl⟩, fun h => by simp at h⟩, fun W hR r hr => ?_, fun r hr => ?_⟩
    · obtain rfl := List.mem_singleton.1 hr
      obtain ⟨h7, h8⟩ := hR _ hm
      refine ⟨h7, fun j u hu => ?_⟩
      rw [grRow_drop, List.getElem?_drop] at hu
      have := h8 (k * 4 + j) u hu
      rw [Nat.add_assoc]
      exact this
    · obtain rfl := List.mem_singleton.1 hr
      exact List.mem_map.2 ⟨_, hm, rfl⟩
theorem Hp.rdmerge {w W : World} {A : List Th} {R S : List Rng} (h : Hp w (A ++ [.rd R, .rd S]) W) : Hp w (A ++ [.rd (R ++ S)]) W := by
  obtain ⟨ha, _, hc⟩ := List.pairwise_append.1 h.nd
  have h1 : RdIn W R := h.all (.rd R) (by simp)
  have h2 : RdIn W S := h.all (.rd S) (by simp)
  refine ⟨h.old, fun x hx => ?_, ?_⟩
  · rcases List.mem_append.1 hx with hx | hx
    · exact h.all x (List.mem_append_left _ hx)
    · obtain rfl := List.mem_singleton.1 hx
      exact h1.append h2
  · rw [List.pairwise_append]
    refine ⟨ha, List.pairwise_singleton _ _, fun a ham b hb => ?_⟩
    obtain rfl := List.mem_singleton.1 hb
    have ap1 := hc a ham (.rd R) (by simp)
    have ap2 := hc a ham (.rd S) (by simp)
    refine ⟨fun c hac => ⟨fun hbc => (by cases hbc), fun hbr => ?_⟩, fun c hbc => (by cases hbc)⟩
    obtain ⟨r, hr, rfl⟩ := List.mem_map.1 hbr
    rcases List.mem_append.1 hr with hr | hr
    · exact (ap1.1 _ hac).2 (List.mem_map.2 ⟨r, hr, rfl⟩)
    · exact (ap2.1 _ hac).2 (List.mem_map.2 ⟨r, hr, rfl⟩)
theorem Hp.ownrd2 {w W : World} {A : List Th} {v : Value} {e : TypeId} {z n : Nat} {xs : List Value} (h : Hp w (A ++ [.sl v e z n xs]) W) : ∃ R, SlRd v z n xs R ∧ (∀ r ∈ R, w.heap.size ≤ r.1) ∧ Hp w (A ++ [.rd R]) W := by
  have ho : W.ownsRow w.heap.size e z v n xs := h.all (.sl v e z n xs) (List.mem_append_right _ (List.mem_singleton.2 rfl))
  obtain ⟨R, h1, h2, h3⟩ := own_reads ho
  obtain ⟨ha, _, hc⟩ := List.pairwise_append.1 h.nd
  refine ⟨R, h1, fun r hr => (h3 r hr).1, h.old, fun x hx => ?_, ?_⟩
  · rcases List.mem_append.1 hx with hx | hx
    · exact h.all x (List.mem_append_left _ hx)
    · obtain rfl := List.mem_singleton.1 hx
      exact h2
  · rw [List.pairwise_append]
    refine ⟨ha, List.pairwise_singleton _ _, fun a ham b hb => ?_⟩
    obtain rfl := List.mem_singleton.1 hb
    have hap := hc a ham _ (List.mem_singleton.2 rfl)
    refine ⟨fun c hac => ⟨fun hbc => (by cases hbc), fun hbr => ?_⟩, fun c hbc => (by cases hbc)⟩
    obtain ⟨r, hr, rfl⟩ := List.mem_map.1 hbr
    exact (hap.1 _ hac).1 (h3 r hr).2
theorem TbRd.mono {h v : Value} {t : Tb} {R S : List Rng} (k : TbRd h v t R) (hs : ∀ r ∈ R, r ∈ S) : TbRd h v t S := ⟨SlRd.mono k.1 hs, SlRd.mono k.2 hs⟩
theorem GrRd.shape {v : Value} {l : List Gr} {R : List Rng} (h : GrRd v l R) : ∃ a c, v = .slice a l.length c ∧ l.length ≤ c ∧ c ≤ maxLen := by
  obtain ⟨a, c, h1, _, h2, h3, _⟩ := h
  exact ⟨a, c, h1, h2, h3⟩
theorem GrRd.base {a : Option Addr} {c : Nat} {l : List Gr} {R : List Rng} (h : GrRd (.slice a l.length c) l R) (h0 : 0 < l.length) : ∃ g off, a = some ⟨g, off, none⟩ ∧ ∀ W, RdIn W R → W.rangeAt g off (grRow l) := by
  obtain ⟨a', c', h1, _, _, _, h2, _⟩ := h
  obtain ⟨rfl, rfl⟩ : a = a' ∧ c = c' := by simpa using h1
  obtain ⟨g, off, h3, h4⟩ := h2 h0
  exact ⟨g, off, h3, fun W hR => (hR _ h4).2⟩
theorem wp_load_whole {o : Oper} {a : Act} {w : World} {K : Act → World → Prop} {Q : Exit → Act → World → Prop} (t : TypeId) (x : Operand) (b : Nat) (cs : List Value) (t0 : TypeId) {ds : TypeDesc} (hu : Try.prog.underlying t = some ds) (ho : o.op = .load t x) (hx : a.eval x = .pointer (some ⟨b, 0, none⟩)) (hg : w.heap[b]? = some (.cells cs.toArray t0 (0, 0)))
    (hd : ds.isRow = true) (hi : (Try.prog.info? t).map (·.size) = some cs.length) (h : K (a.put o.dst (.agg cs.toArray)) w) : o.wp Try.prog a w K Q :=
  wp_load_row t x ho b hx t0 cs.toArray (0, 0) ds hg hu (by cases ds <;> simp_all) (by rw [List.size_toArray]; exact hi) h
end Go.Proofs.Ytooaldglgkjjgaa
/- the reference's settle -/
namespace Go.Proofs.Ytooaldglgkjjgaa
open Go.RowKit
set_option maxRecDepth 20000
set_option linter.unusedSimpArgs false
set_option linter.unusedVariables false

theorem split_at {l : List Gr} {i : Nat} {x : Gr} (hx : l[i]? = some x) : l = l.take i ++ x :: l.drop (i + 1) := by
  have hlt := (List.getElem?_eq_some_iff.1 hx).1
  have := (List.take_append_drop i l).symm
  rw [List.drop_eq_getElem_cons hlt, (List.getElem?_eq_some_iff.1 hx).2] at this
  exact this
end Go.Proofs.Ytooaldglgkjjgaa
/- the reference's Mode, Waiting, place and Same -/
namespace Go.Proofs.Ytooaldglgkjjgaa
open Go.RowKit
set_option maxRecDepth 20000
set_option linter.unusedSimpArgs false
set_option linter.unusedVariables false

theorem wfind_first {l : List Gr} {i : Nat} {tx : Int} {x : Gr} (h : ∀ q, q < i → ∀ z, l[q]? = some z → z.tx ≠ tx) (hx : l[i]? = some x) (hk : x.tx = tx) : wfind l tx = some x := by
  have hlt := (List.getElem?_eq_some_iff.1 hx).1
  have e : l = l.take i ++ x :: l.drop (i + 1) := split_at hx
  unfold wfind
  rw [e, List.find?_append, List.find?_cons, decide_eq_true hk]
  have : (l.take i).find? (fun x => decide (x.tx = tx)) = none := by
    rw [List.find?_eq_none]
    intro z hz
    have := mem_take_of (P := fun z => z.tx ≠ tx) h z hz
    simpa using this
  rw [this]; rfl
end Go.Proofs.Ytooaldglgkjjgaa
/- what reads, its spare cut off, is appended to: the whole is new -/
namespace Go.Proofs.Ytooaldglgkjjgaa
open Go.RowKit
set_option maxRecDepth 20000

theorem results_cell_tmp2 {fn : Func} {p u u2 : Tmp} {ty : TypeId} (h : fn.results = #[.cell p ty, .tmp u, .tmp u2]) (tmps : Array Value) (P : Program) (w : World) :
    (results fn tmps).run P w =
      ((asAddr (tmps.getD p undef)).run P w).andThen fun a w₁ => ((loadVar ty a).run P w₁).andThen fun v w₂ => .ok (.tuple #[v, tmps.getD u undef, tmps.getD u2 undef]) w₂ := by
  simp only [results, h]
  simp [Sem.run_bind, Result.andThen]
theorem results_ob_tmp2 {fn : Func} {p u u2 : Tmp} {t : TypeId} (h : fn.results = #[.cell p t, .tmp u, .tmp u2]) (tmps : Array Value) (w : World) (g : Nat) (cs : List Value) (t0 : TypeId) (ds : TypeDesc)
    (hp : tmps.getD p undef = .pointer (some ⟨g, 0, none⟩)) (hg : w.heap[g]? = some (.cells cs.toArray t0 (0, 0))) (hu : Try.prog.underlying t = some ds) (hd : ds.isRow = true) (hi : (Try.prog.info? t).map (·.size) = some cs.length) :
    (results fn tmps).run Try.prog w = .ok (.tuple #[.agg cs.toArray, tmps.getD u undef, tmps.getD u2 undef]) w := by
  rw [results_cell_tmp2 h, hp]
  simp [asAddr, run_loadVar_row w g t0 t cs.toArray (0, 0) ds hg hu (by cases ds <;> simp_all) (by rw [List.size_toArray]; exact hi), Result.andThen]
end Go.Proofs.Ytooaldglgkjjgaa
/- the reference's Request -/
namespace Go.Proofs.Ytooaldglgkjjgaa
open Go.RowKit
set_option maxRecDepth 20000
set_option linter.unusedSimpArgs false
set_option linter.unusedVariables false

theorem waitR_good {t : Tb} (hg : GoodTb t) (tx : Int) : GoodGr (waitR t tx).1 := by
  unfold waitR
  split
  · cases h : wfind t.wait tx with
    | none => exact grNil_good
    | some x => exact hg.wait x (wfind_some h).1
  · exact grNil_good
theorem grEq_same (a b : Gr) : sameV a b = grEqB a b := by rw [Bool.eq_iff_iff, sameV_iff, grEqB_iff]
theorem place_le (h l : List Gr) (g : Gr) : wplaceR h l g ≤ l.length := by
  unfold wplaceR
  split
  · exact Nat.le_refl _
  · exact List.findIdx_le_length
end Go.Proofs.Ytooaldglgkjjgaa
/- the program's small functions on grants: comparing, the order, conflicts, validity, what finds grants (locks) -/
namespace Go.Proofs.Ytooaldglgkjjgaa
open Go.RowKit
set_option maxRecDepth 20000
set_option linter.unusedSimpArgs false
set_option linter.unusedVariables false

theorem isNaN_any (x : Int) (W : World) : Calls Try.prog 100 #[.int .i64 x] W fun e w' => e = .returned (.bool false) ∧ w' = W := by
  have h : (x != x) = false := by simp
  go_enter Try.func100, Try.ntmps100
  go_wp2
  go_ret
  exact ⟨rfl, rfl⟩
def cmpI (x y : Int) : Int := if x < y then -1 else if y < x then 1 else 0
theorem cmpI_lt {x y : Int} (h : x < y) : cmpI x y = -1 := if_pos h
theorem cmpI_gt {x y : Int} (h : y < x) : cmpI x y = 1 := by unfold cmpI; rw [if_neg (by omega), if_pos h]
theorem cmpI_eq {x y : Int} (h : x = y) : cmpI x y = 0 := by unfold cmpI; rw [if_neg (by omega), if_neg (by omega)]
theorem cmpI_zero {x y : Int} : cmpI x y = 0 ↔ x = y := by unfold cmpI; split <;> (try split) <;> omega
theorem cmpI_neg {x y : Int} : cmpI x y < 0 ↔ x < y := by unfold cmpI; split <;> (try split) <;> omega
set_option maxHeartbeats 4000000 in
theorem compare_any (x y : Int) (W : World) : Calls Try.prog 94 #[.int .i64 x, .int .i64 y] W fun e w' => e = .returned (.int .i64 (cmpI x y)) ∧ w' = W := by
  have hn := fun x => isNaN_any x W
  rcases Int.lt_trichotomy x y with h | h | h
  · have d1 : decide (x < y) = true := decide_eq_true h
    have HV := Lib.hid (cmpI_lt h)
    go_enter Try.func94, Try.ntmps94
    go_wp2_with (go_at_call 100; refine (hn _).mono ?_; rintro e w2 ⟨rfl, rfl⟩)
    go_ret
    exact ⟨by rw [HV.out]; rfl, rfl⟩
  · have d1 : ¬ x < y := by omega
    have d2 : ¬ y < x := by omega
    have HV := Lib.hid (cmpI_eq h)
    clear h
    go_enter Try.func94, Try.ntmps94
    go_wp2_with (go_at_call 100; refine (hn _).mono ?_; rintro e w2 ⟨rfl, rfl⟩)
    go_ret
    exact ⟨by rw [HV.out]; rfl, rfl⟩
  · have d1 : ¬ x < y := by omega
    have HV := Lib.hid (cmpI_gt h)
    go_enter Try.func94, Try.ntmps94
    go_wp2_with (go_at_call 100; refine (hn _).mono ?_; rintro e w2 ⟨rfl, rfl⟩)
    go_ret
    exact ⟨by rw [HV.out]; rfl, rfl⟩
def orI (x y z : Int) : Int := if x = 0 then (if y = 0 then z else y) else x
set_option maxHeartbeats 4000000 in
theorem or3_any (x y z : Int) (b : Nat) (w : World) (h0 : w.cell? ⟨b, 0, none⟩ = some (.int .i64 x)) (h1 : w.cell? ⟨b, 1, none⟩ = some (.int .i64 y)) (h2 : w.cell? ⟨b, 2, none⟩ = some (.int .i64 z)) :
    Calls Try.prog 93 #[.slice (some ⟨b, 0, none⟩) 3 3] w fun e w' => e = .returned (.int .i64 (orI x y z)) ∧ w' = w := by
  have HC : Hid (∀ j : Nat, j < 3 → ∃ u, w.cell? ⟨b, j, none⟩ = some (.int .i64 u) ∧ (([x, y, z] : List Int)[j]? = some u)) := fun j hj => by
    match j with
    | 0 => exact ⟨x, h0, rfl⟩
    | 1 => exact ⟨y, h1, rfl⟩
    | 2 => exact ⟨z, h2, rfl⟩
    | j + 3 => omega
  have HO : Hid (∀ (j : Nat) (u : Int), ([x, y, z] : List Int)[j]? = some u → (∀ k v, k < j → ([x, y, z] : List Int)[k]? = some v → v = 0) → ¬ u = 0 → orI x y z = u) := fun j u hu hb hn => by
    match j with
    | 0 =>
      obtain rfl : x = u := by simpa using hu
      unfold orI; rw [if_neg hn]
    | 1 =>
      obtain rfl : y = u := by simpa using hu
      unfold orI; rw [if_pos (hb 0 x (by omega) rfl), if_neg hn]
    | 2 =>
      obtain rfl : z = u := by simpa using hu
      unfold orI; rw [if_pos (hb 0 x (by omega) rfl), if_pos (hb 1 y (by omega) rfl)]
    | j + 3 => simp at hu
  have HZ : Hid ((∀ k v, k < 3 → ([x, y, z] : List Int)[k]? = some v → v = 0) → orI x y z = 0) := fun hb => by
    unfold orI; rw [if_pos (hb 0 x (by omega) rfl), if_pos (hb 1 y (by omega) rfl)]; exact hb 2 z (by omega) rfl
  clear h0 h1 h2
  generalize orI x y z = o at *
  generalize ([x, y, z] : List Int) = l at *
  go_enter Try.func93, Try.ntmps93
  go_wp2_with fail
  go_loopw [8] (fun i wr => ∃ j : Nat, j ≤ 3 ∧ i = .int .i64 j ∧ (∀ k v, k < j → l[k]? = some v → v = 0) ∧ wr = w) (fun i _ => 3 - (intOf i).toNat)
  case atStart => exact ⟨0, by omega, rfl, fun k v h => absurd h (by omega), rfl⟩
  case round =>
    obtain ⟨j, hj, rfl, hb, rfl⟩ := hrel
    have HB := Lib.hid hb
    clear hb
    by_cases hlt : j < 3
    · obtain ⟨u, hu, hl⟩ := HC.out j hlt
      have HL := Lib.hid hl
      have HLt := Lib.hid hlt
      have hji : (j : Int) < 3 := by omega
      have hj0 : (0 : Int) ≤ (j : Int) := by omega
      clear hl
      by_cases h0 : u = 0
      · obtain ⟨e1, n1⟩ := eq_facts h0
        have HX := Lib.hid h0
        clear h0
        go_wp2_with fail
        go_roundw
        case rel => exact ⟨j + 1, HLt.out, by go_num, fun k v hk hv => by
          rcases Nat.lt_or_eq_of_le (Nat.lt_succ_iff.1 hk) with h | h
          · exact HB.out k v h hv
          · subst h
            have h1 := HL.out
            rw [hv] at h1
            rw [Option.some.inj h1]; exact HX.out, trivial⟩
        case measure => simp [intOf]; have := HLt.out; omega
      · obtain ⟨e1, n1⟩ := ne_facts h0
        have HV := Lib.hid (HO.out j u HL.out HB.out h0)
        clear h0
        go_wp2_with fail
        go_ret
        exact ⟨by rw [HV.out]; rfl, rfl⟩
    · obtain rfl : j = 3 := by omega
      have HV := Lib.hid (HZ.out HB.out)
      go_wp2_with fail
      go_ret
      exact ⟨by rw [HV.out]; rfl, rfl⟩
def ordI (a b : Gr) : Int := orI (cmpI a.page b.page) (cmpI a.slot b.slot) (cmpI a.tx b.tx)
theorem ordI_neg {a b : Gr} : ordI a b < 0 ↔ GLt a b := by
  have h1 := @cmpI_zero a.page b.page
  have h2 := @cmpI_zero a.slot b.slot
  have n1 := @cmpI_neg a.page b.page
  have n2 := @cmpI_neg a.slot b.slot
  have n3 := @cmpI_neg a.tx b.tx
  unfold ordI orI GLt
  split
  · split <;> omega
  · omega
theorem ordI_zero {a b : Gr} : ordI a b = 0 ↔ (a.tx = b.tx ∧ a.page = b.page ∧ a.slot = b.slot) := by
  have h1 := @cmpI_zero a.page b.page
  have h2 := @cmpI_zero a.slot b.slot
  have h3 := @cmpI_zero a.tx b.tx
  unfold ordI orI
  split
  · split <;> omega
  · omega
end Go.Proofs.Ytooaldglgkjjgaa
/- the program's order of grants (locks) -/
namespace Go.Proofs.Ytooaldglgkjjgaa
open Go.RowKit
set_option maxRecDepth 20000
set_option linter.unusedSimpArgs false
set_option linter.unusedVariables false

theorem compare_b (x y : Int) (W : World) : Calls Try.prog 94 #[.int .i64 x, .int .i64 y] W fun e w' => e = .returned (.int .i64 (cmpI x y)) ∧ Below W.heap.size W w' :=
  (compare_any x y W).mono fun e w' h => ⟨h.1, by rw [h.2]; exact Below.refl _ _⟩
theorem or3_b (x y z : Int) (b : Nat) (w : World) (h0 : w.cell? ⟨b, 0, none⟩ = some (.int .i64 x)) (h1 : w.cell? ⟨b, 1, none⟩ = some (.int .i64 y)) (h2 : w.cell? ⟨b, 2, none⟩ = some (.int .i64 z)) :
    Calls Try.prog 93 #[.slice (some ⟨b, 0, none⟩) 3 3] w fun e w' => e = .returned (.int .i64 (orI x y z)) ∧ Below w.heap.size w w' :=
  (or3_any x y z b w h0 h1 h2).mono fun e w' h => ⟨h.1, by rw [h.2]; exact Below.refl _ _⟩
set_option maxHeartbeats 4000000 in
theorem order_any (a b : Gr) (w : World) : Calls Try.prog 77 #[.agg (grCells a).toArray, .agg (grCells b).toArray] w fun e w' => e = .returned (.int .i64 (ordI a b)) ∧ Below w.heap.size w w' := by
  have h1 := ((Hp.start w).put 29 (grCells a)).put 29 (grCells b)
  simp only [World.size_alloc, List.nil_append, List.cons_append] at h1
  have HS0 : Hid (Hp w [.ob w.heap.size 29 (grCells a), .ob (w.heap.size + 1) 29 (grCells b)] ((w.alloc (.cells (grCells a).toArray 29)).alloc (.cells (grCells b).toArray 29))) := h1
  clear h1
  have HV : Hid (ordI a b = orI (cmpI a.page b.page) (cmpI a.slot b.slot) (cmpI a.tx b.tx)) := rfl
  have HUI : Hid (Try.prog.underlying 38 = some (.slice 3)) := Try.underlying38
  go_enter Try.func77, Try.ntmps77
  go_upto_region 1 with (fail)
  generalize ((w.alloc (.cells (grCells a).toArray 29)).alloc (.cells (grCells b).toArray 29)) = w1 at *
  generalize w.heap.size + 1 = k2 at *
  refine wp_region_held_drew (S := fun w' => w'.rangeAt w.heap.size 0 (grCells a) ∧ w'.rangeAt k2 0 (grCells b)) (by kernel_rfl) (⟨(fun j v hv => by rw [Nat.zero_add]; exact ((HS0.out).drew).at 0 rfl j hv), (fun j v hv => by rw [Nat.zero_add]; exact ((HS0.out).drew).at 1 rfl j hv)⟩) (fun hHeld => ?_)
  refine wpAnyH_take (i := 0) (oi := { dst := some 5, op := Op.fieldAddr 29 (Operand.tmp 2) 1, type := 0, pos := "locks.go:13", after := #[], guard := none }) (v := ?q1v) rfl (by kernel_rfl) (by kernel_rfl) (by kernel_rfl) (fun _ _ _ h => h) (Or.inl ⟨by rfl, ?q1h⟩) hHeld ?q1r
  case q1h => (intro wq hSw; clear hSw; go_simp; try with_reducible rfl)
  try simp only [Act.put, List.setIfInBounds_toArray, List.set_cons_zero, List.set_cons_succ]
  refine wpAnyH_take (i := 1) (oi := { dst := some 6, op := Op.fieldAddr 27 (Operand.tmp 5) 0, type := 0, pos := "locks.go:13", after := #[{ on := 0, ground := Ground.data }], guard := none }) (v := ?q2v) rfl (by kernel_rfl) (by kernel_rfl) (by kernel_rfl) (fun _ _ _ h => h) (Or.inl ⟨by rfl, ?q2h⟩) hHeld ?q2r
  case q2h => (intro wq hSw; clear hSw; go_simp; try with_reducible rfl)
  try simp only [Act.put, List.setIfInBounds_toArray, List.set_cons_zero, List.set_cons_succ]
  refine wpAnyH_take (i := 2) (oi := { dst := some 7, op := Op.load 3 (Operand.tmp 6), type := 3, pos := "locks.go:13", after := #[{ on := 1, ground := Ground.data }], guard := none }) (v := .int .i64 a.page) rfl (by kernel_rfl) (by kernel_rfl) (by kernel_rfl) (fun _ _ _ h => h) (Or.inl ⟨by rfl, ?q3h⟩) hHeld ?q3r
  case q3h => (intro wq hSw; have lq := (hSw.1) 1 (.int .i64 a.page) rfl; simp only [Nat.zero_add] at lq; clear hSw; go_simp; try with_reducible rfl)
  try simp only [Act.put, List.setIfInBounds_toArray, List.set_cons_zero, List.set_cons_succ]
  refine wpAnyH_take (i := 3) (oi := { dst := some 8, op := Op.fieldAddr 29 (Operand.tmp 3) 1, type := 0, pos := "locks.go:13", after := #[], guard := none }) (v := ?q4v) rfl (by kernel_rfl) (by kernel_rfl) (by kernel_rfl) (fun _ _ _ h => h) (Or.inl ⟨by rfl, ?q4h⟩) hHeld ?q4r
  case q4h => (intro wq hSw; clear hSw; go_simp; try with_reducible rfl)
  try simp only [Act.put, List.setIfInBounds_toArray, List.set_cons_zero, List.set_cons_succ]
  refine wpAnyH_take (i := 4) (oi := { dst := some 9, op := Op.fieldAddr 27 (Operand.tmp 8) 0, type := 0, pos := "locks.go:13", after := #[{ on := 3, ground := Ground.data }], guard := none }) (v := ?q5v) rfl (by kernel_rfl) (by kernel_rfl) (by kernel_rfl) (fun _ _ _ h => h) (Or.inl ⟨by rfl, ?q5h⟩) hHeld ?q5r
  case q5h => (intro wq hSw; clear hSw; go_simp; try with_reducible rfl)
  try simp only [Act.put, List.setIfInBounds_toArray, List.set_cons_zero, List.set_cons_succ]
  refine wpAnyH_take (i := 5) (oi := { dst := some 10, op := Op.load 3 (Operand.tmp 9), type := 3, pos := "locks.go:13", after := #[{ on := 4, ground := Ground.data }], guard := none }) (v := .int .i64 b.page) rfl (by kernel_rfl) (by kernel_rfl) (by kernel_rfl) (fun _ _ _ h => h) (Or.inl ⟨by rfl, ?q6h⟩) hHeld ?q6r
  case q6h => (intro wq hSw; have lq := (hSw.2) 1 (.int .i64 b.page) rfl; simp only [Nat.zero_add] at lq; clear hSw; go_simp; try with_reducible rfl)
  try simp only [Act.put, List.setIfInBounds_toArray, List.set_cons_zero, List.set_cons_succ]
  refine wpAnyH_take (i := 7) (oi := { dst := some 12, op := Op.fieldAddr 29 (Operand.tmp 2) 1, type := 0, pos := "locks.go:13", after := #[], guard := none }) (v := ?q7v) rfl (by kernel_rfl) (by kernel_rfl) (by kernel_rfl) (fun _ _ _ h => h) (Or.inl ⟨by rfl, ?q7h⟩) hHeld ?q7r
  case q7h => (intro wq hSw; clear hSw; go_simp; try with_reducible rfl)
  try simp only [Act.put, List.setIfInBounds_toArray, List.set_cons_zero, List.set_cons_succ]
  refine wpAnyH_take (i := 8) (oi := { dst := some 13, op := Op.fieldAddr 27 (Operand.tmp 12) 1, type := 0, pos := "locks.go:13", after := #[{ on := 7, ground := Ground.data }], guard := none }) (v := ?q8v) rfl (by kernel_rfl) (by kernel_rfl) (by kernel_rfl) (fun _ _ _ h => h) (Or.inl ⟨by rfl, ?q8h⟩) hHeld ?q8r
  case q8h => (intro wq hSw; clear hSw; go_simp; try with_reducible rfl)
  try simp only [Act.put, List.setIfInBounds_toArray, List.set_cons_zero, List.set_cons_succ]
  refine wpAnyH_take (i := 9) (oi := { dst := some 14, op := Op.load 3 (Operand.tmp 13), type := 3, pos := "locks.go:13", after := #[{ on := 8, ground := Ground.data }], guard := none }) (v := .int .i64 a.slot) rfl (by kernel_rfl) (by kernel_rfl) (by kernel_rfl) (fun _ _ _ h => h) (Or.inl ⟨by rfl, ?q9h⟩) hHeld ?q9r
  case q9h => (intro wq hSw; have lq := (hSw.1) 2 (.int .i64 a.slot) rfl; simp only [Nat.zero_add] at lq; clear hSw; go_simp; try with_reducible rfl)
  try simp only [Act.put, List.setIfInBounds_toArray, List.set_cons_zero, List.set_cons_succ]
  refine wpAnyH_take (i := 10) (oi := { dst := some 15, op := Op.fieldAddr 29 (Operand.tmp 3) 1, type := 0, pos := "locks.go:13", after := #[], guard := none }) (v := ?q10v) rfl (by kernel_rfl) (by kernel_rfl) (by kernel_rfl) (fun _ _ _ h => h) (Or.inl ⟨by rfl, ?q10h⟩) hHeld ?q10r
  case q10h => (intro wq hSw; clear hSw; go_simp; try with_reducible rfl)
  try simp only [Act.put, List.setIfInBounds_toArray, List.set_cons_zero, List.set_cons_succ]
  refine wpAnyH_take (i := 11) (oi := { dst := some 16, op := Op.fieldAddr 27 (Operand.tmp 15) 1, type := 0, pos := "locks.go:13", after := #[{ on := 10, ground := Ground.data }], guard := none }) (v := ?q11v) rfl (by kernel_rfl) (by kernel_rfl) (by kernel_rfl) (fun _ _ _ h => h) (Or.inl ⟨by rfl, ?q11h⟩) hHeld ?q11r
  case q11h => (intro wq hSw; clear hSw; go_simp; try with_reducible rfl)
  try simp only [Act.put, List.setIfInBounds_toArray, List.set_cons_zero, List.set_cons_succ]
  refine wpAnyH_take (i := 12) (oi := { dst := some 17, op := Op.load 3 (Operand.tmp 16), type := 3, pos := "locks.go:13", after := #[{ on := 11, ground := Ground.data }], guard := none }) (v := .int .i64 b.slot) rfl (by kernel_rfl) (by kernel_rfl) (by kernel_rfl) (fun _ _ _ h => h) (Or.inl ⟨by rfl, ?q12h⟩) hHeld ?q12r
  case q12h => (intro wq hSw; have lq := (hSw.2) 2 (.int .i64 b.slot) rfl; simp only [Nat.zero_add] at lq; clear hSw; go_simp; try with_reducible rfl)
  try simp only [Act.put, List.setIfInBounds_toArray, List.set_cons_zero, List.set_cons_succ]
  refine wpAnyH_take (i := 14) (oi := { dst := some 19, op := Op.fieldAddr 29 (Operand.tmp 2) 0, type := 0, pos := "locks.go:13", after := #[], guard := none }) (v := ?q13v) rfl (by kernel_rfl) (by kernel_rfl) (by kernel_rfl) (fun _ _ _ h => h) (Or.inl ⟨by rfl, ?q13h⟩) hHeld ?q13r
  case q13h => (intro wq hSw; clear hSw; go_simp; try with_reducible rfl)
  try simp only [Act.put, List.setIfInBounds_toArray, List.set_cons_zero, List.set_cons_succ]
  refine wpAnyH_take (i := 15) (oi := { dst := some 20, op := Op.load 3 (Operand.tmp 19), type := 3, pos := "locks.go:13", after := #[{ on := 14, ground := Ground.data }], guard := none }) (v := .int .i64 a.tx) rfl (by kernel_rfl) (by kernel_rfl) (by kernel_rfl) (fun _ _ _ h => h) (Or.inl ⟨by rfl, ?q14h⟩) hHeld ?q14r
  case q14h => (intro wq hSw; have lq := (hSw.1) 0 (.int .i64 a.tx) rfl; simp only [Nat.zero_add] at lq; clear hSw; go_simp; try with_reducible rfl)
  try simp only [Act.put, List.setIfInBounds_toArray, List.set_cons_zero, List.set_cons_succ]
  refine wpAnyH_take (i := 16) (oi := { dst := some 21, op := Op.fieldAddr 29 (Operand.tmp 3) 0, type := 0, pos := "locks.go:13", after := #[], guard := none }) (v := ?q15v) rfl (by kernel_rfl) (by kernel_rfl) (by kernel_rfl) (fun _ _ _ h => h) (Or.inl ⟨by rfl, ?q15h⟩) hHeld ?q15r
  case q15h => (intro wq hSw; clear hSw; go_simp; try with_reducible rfl)
  try simp only [Act.put, List.setIfInBounds_toArray, List.set_cons_zero, List.set_cons_succ]
  refine wpAnyH_take (i := 17) (oi := { dst := some 22, op := Op.load 3 (Operand.tmp 21), type := 3, pos := "locks.go:13", after := #[{ on := 16, ground := Ground.data }], guard := none }) (v := .int .i64 b.tx) rfl (by kernel_rfl) (by kernel_rfl) (by kernel_rfl) (fun _ _ _ h => h) (Or.inl ⟨by rfl, ?q16h⟩) hHeld ?q16r
  case q16h => (intro wq hSw; have lq := (hSw.2) 0 (.int .i64 b.tx) rfl; simp only [Nat.zero_add] at lq; clear hSw; go_simp; try with_reducible rfl)
  try simp only [Act.put, List.setIfInBounds_toArray, List.set_cons_zero, List.set_cons_succ]
  refine wpAnyH_ready (rs := [6]) (by kernel_rfl) (by simp) ?_
  refine AllReadyH.cons (o := { dst := some 11, op := Op.call { callee := Callee.value (Operand.func 94), args := #[Operand.tmp 7, Operand.tmp 10], argTypes := #[3, 3] }, type := 3, pos := "locks.go:13", after := #[{ on := 2, ground := Ground.data }, { on := 5, ground := Ground.data }], guard := none }) rfl (fun K hK => ?_) (AllReadyH.nil)
  go_simp
  go_wp2_with (go_at_call 94; refine (compare_b _ _ _).mono ?_; rintro e w2 ⟨rfl, hb⟩)
  have HS1 : Hid (Hp w [.ob (w.heap.size) 29 (grCells a), .ob k2 29 (grCells b)] w2) := ((HS0.out).drew).calls hb
  refine hK.out _ _ (⟨(fun j v hv => by rw [Nat.zero_add]; exact (HS1.out).at 0 rfl j hv), (fun j v hv => by rw [Nat.zero_add]; exact (HS1.out).at 1 rfl j hv)⟩) (fun hHeld => ?_)
  clear hK K hb
  try simp only [Act.put, List.setIfInBounds_toArray, List.set_cons_zero, List.set_cons_succ]
  refine wpAnyH_ready (rs := [13]) (by kernel_rfl) (by simp) ?_
  refine AllReadyH.cons (o := { dst := some 18, op := Op.call { callee := Callee.value (Operand.func 94), args := #[Operand.tmp 14, Operand.tmp 17], argTypes := #[3, 3] }, type := 3, pos := "locks.go:13", after := #[{ on := 9, ground := Ground.data }, { on := 12, ground := Ground.data }, { on := 6, ground := Ground.chain }], guard := none }) rfl (fun K hK => ?_) (AllReadyH.nil)
  go_simp
  go_wp2_with (go_at_call 94; refine (compare_b _ _ _).mono ?_; rintro e w3 ⟨rfl, hb⟩)
  have HS2 : Hid (Hp w [.ob (w.heap.size) 29 (grCells a), .ob k2 29 (grCells b)] w3) := (HS1.out).calls hb
  refine hK.out _ _ (⟨(fun j v hv => by rw [Nat.zero_add]; exact (HS2.out).at 0 rfl j hv), (fun j v hv => by rw [Nat.zero_add]; exact (HS2.out).at 1 rfl j hv)⟩) (fun hHeld => ?_)
  clear hK K hb
  try simp only [Act.put, List.setIfInBounds_toArray, List.set_cons_zero, List.set_cons_succ]
  refine wpAnyH_ready (rs := [18]) (by kernel_rfl) (by simp) ?_
  refine AllReadyH.cons (o := { dst := some 23, op := Op.call { callee := Callee.value (Operand.func 94), args := #[Operand.tmp 20, Operand.tmp 22], argTypes := #[3, 3] }, type := 3, pos := "locks.go:13", after := #[{ on := 15, ground := Ground.data }, { on := 17, ground := Ground.data }, { on := 13, ground := Ground.chain }], guard := none }) rfl (fun K hK => ?_) (AllReadyH.nil)
  go_simp
  go_wp2_with (go_at_call 94; refine (compare_b _ _ _).mono ?_; rintro e w4 ⟨rfl, hb⟩)
  have HS3 : Hid (Hp w [.ob (w.heap.size) 29 (grCells a), .ob k2 29 (grCells b)] w4) := (HS2.out).calls hb
  refine hK.out _ _ (⟨(fun j v hv => by rw [Nat.zero_add]; exact (HS3.out).at 0 rfl j hv), (fun j v hv => by rw [Nat.zero_add]; exact (HS3.out).at 1 rfl j hv)⟩) (fun hHeld => ?_)
  clear hK K hb
  try simp only [Act.put, List.setIfInBounds_toArray, List.set_cons_zero, List.set_cons_succ]
  refine wpAnyH_ready (rs := [19]) (by kernel_rfl) (by simp) ?_
  refine AllReadyH.cons (o := { dst := some 24, op := Op.buildSlice 38 3 #[(0, Operand.tmp 11), (1, Operand.tmp 18), (2, Operand.tmp 23)], type := 38, pos := "locks.go:13", after := #[{ on := 6, ground := Ground.data }, { on := 13, ground := Ground.data }, { on := 18, ground := Ground.data }], guard := none }) rfl (fun K hK => ?_) (AllReadyH.nil)
  rw [if_pos (by rfl)]
  refine wp_build_vals rfl elem_i HUI.out [.int .i64 (cmpI a.page b.page), .int .i64 (cmpI a.slot b.slot), .int .i64 (cmpI a.tx b.tx)] (by intro v hv; simp only [List.mem_cons, List.not_mem_nil, or_false] at hv; rcases hv with rfl | rfl | rfl <;> rfl) (Nat.succ_pos _) (by simp only [List.length_cons, List.length_nil]; omega) rfl (by simp only [List.map_toArray, List.map_cons, List.map_nil, List.zipIdx_cons, List.zipIdx_nil]; exact rfl) ?_
  have HS4 : Hid (Hp w [.ob (w.heap.size) 29 (grCells a), .ob k2 29 (grCells b), .ob (w4.heap.size) 3 ([.int .i64 (cmpI a.page b.page), .int .i64 (cmpI a.slot b.slot), .int .i64 (cmpI a.tx b.tx)])] (w4.alloc (.cells ([.int .i64 (cmpI a.page b.page), .int .i64 (cmpI a.slot b.slot), .int .i64 (cmpI a.tx b.tx)]).toArray 3))) := (HS3.out).put 3 ([.int .i64 (cmpI a.page b.page), .int .i64 (cmpI a.slot b.slot), .int .i64 (cmpI a.tx b.tx)])
  refine hK.out _ _ (⟨(fun j v hv => by rw [Nat.zero_add]; exact (HS4.out).at 0 rfl j hv), (fun j v hv => by rw [Nat.zero_add]; exact (HS4.out).at 1 rfl j hv)⟩) (fun hHeld => ?_)
  clear hK K
  generalize (w4.alloc (.cells ([.int .i64 (cmpI a.page b.page), .int .i64 (cmpI a.slot b.slot), .int .i64 (cmpI a.tx b.tx)]).toArray 3)) = w5 at *
  generalize w4.heap.size = B1 at *
  try simp only [Act.put, List.setIfInBounds_toArray, List.set_cons_zero, List.set_cons_succ]
  refine wpAnyH_ready (rs := [20]) (by kernel_rfl) (by simp) ?_
  refine AllReadyH.cons (o := { dst := some 25, op := Op.call { callee := Callee.value (Operand.func 93), args := #[Operand.tmp 24], argTypes := #[38] }, type := 3, pos := "locks.go:13", after := #[{ on := 19, ground := Ground.data }, { on := 18, ground := Ground.chain }], guard := none }) rfl (fun K hK => ?_) (AllReadyH.nil)
  go_simp
  go_wp2_with (go_at_call 93; refine (or3_b _ _ _ B1 _ ((HS4.out).at 2 rfl 0 rfl) ((HS4.out).at 2 rfl 1 rfl) ((HS4.out).at 2 rfl 2 rfl)).mono ?_; rintro e w6 ⟨rfl, hb⟩)
  have HS5 : Hid (Hp w [.ob (w.heap.size) 29 (grCells a), .ob k2 29 (grCells b), .ob B1 3 ([.int .i64 (cmpI a.page b.page), .int .i64 (cmpI a.slot b.slot), .int .i64 (cmpI a.tx b.tx)])] w6) := (HS4.out).calls hb
  refine hK.out _ _ (⟨(fun j v hv => by rw [Nat.zero_add]; exact (HS5.out).at 0 rfl j hv), (fun j v hv => by rw [Nat.zero_add]; exact (HS5.out).at 1 rfl j hv)⟩) (fun hHeld => ?_)
  clear hK K hb
  try simp only [Act.put, List.setIfInBounds_toArray, List.set_cons_zero, List.set_cons_succ]
  refine wpAnyH_take (i := 21) (oi := { dst := some 4, op := Op.assign (Operand.tmp 25), type := 3, pos := "locks.go:13", after := #[{ on := 20, ground := Ground.data }, { on := 20, ground := Ground.chain }, { on := 0, ground := Ground.phase }, { on := 1, ground := Ground.phase }, { on := 2, ground := Ground.phase }, { on := 3, ground := Ground.phase }, { on := 4, ground := Ground.phase }, { on := 5, ground := Ground.phase }, { on := 6, ground := Ground.phase }, { on := 7, ground := Ground.phase }, { on := 8, ground := Ground.phase }, { on := 9, ground := Ground.phase }, { on := 10, ground := Ground.phase }, { on := 11, ground := Ground.phase }, { on := 12, ground := Ground.phase }, { on := 13, ground := Ground.phase }, { on := 14, ground := Ground.phase }, { on := 15, ground := Ground.phase }, { on := 16, ground := Ground.phase }, { on := 17, ground := Ground.phase }, { on := 18, ground := Ground.phase }, { on := 19, ground := Ground.phase }, { on := 20, ground := Ground.phase }], guard := none }) (v := ?q17v) rfl (by kernel_rfl) (by kernel_rfl) (by kernel_rfl) (fun _ _ _ h => h) (Or.inl ⟨by rfl, ?q17h⟩) hHeld ?q17r
  case q17h => (intro wq hSw; clear hSw; go_simp; try with_reducible rfl)
  try simp only [Act.put, List.setIfInBounds_toArray, List.set_cons_zero, List.set_cons_succ]
  refine wpAnyH_done (by kernel_rfl) ?_ _
  clear hHeld
  go_wp2_with fail
  go_ret
  exact ⟨by rw [HV.out]; rfl, (HS5.out).old⟩
end Go.Proofs.Ytooaldglgkjjgaa
/- the program's order, conflicts, validity, and what finds grants (locks) -/
namespace Go.Proofs.Ytooaldglgkjjgaa
open Go.RowKit
set_option maxRecDepth 20000
set_option linter.unusedSimpArgs false
set_option linter.unusedVariables false

set_option maxHeartbeats 4000000 in
theorem pconflict_any (a b : Gr) (w : World) (ha : GoodGr a) (hb : GoodGr b) : Calls Try.prog 78 #[.agg (grCells a).toArray, .agg (grCells b).toArray] w fun e w' => e = .returned (.bool (confB a b)) ∧ Below w.heap.size w w' := by
  have HB : Hid (∀ cs ds, Below w.heap.size w ((w.alloc (.cells cs 29)).alloc (.cells ds 29))) := fun cs ds => ((Below.refl _ _).alloc (Nat.le_refl _) _).alloc (by simp) _
  have hq : ∀ W, Sem.run Try.prog (binOp .eql 27 (.agg #[.int .i64 a.page, .int .i64 a.slot]) (.agg #[.int .i64 b.page, .int .i64 b.slot])) W = .ok (.bool (sameV a.lock b.lock)) W := fun W => run_eql (equal_lk a.lock b.lock ha.lock hb.lock) W
  have hs : sameV a.lock b.lock = (decide (a.page = b.page) && decide (a.slot = b.slot)) := by
    rw [Bool.eq_iff_iff, sameV_iff, Bool.and_eq_true, decide_eq_true_eq, decide_eq_true_eq]
    exact ⟨fun h => ⟨congrArg Lok.page h, congrArg Lok.slot h⟩, fun h => by show Lok.mk _ _ = Lok.mk _ _; rw [h.1, h.2]⟩
  clear ha hb
  unfold grCells
  generalize sameV a.lock b.lock = q at *
  by_cases h1 : a.tx = b.tx
  · obtain ⟨e1, n1⟩ := eq_facts h1
    have HV : Hid (confB a b = false) := Lib.hid (by unfold confB; simp [h1])
    clear h1 hs
    go_enter Try.func78, Try.ntmps78
    go_wp2
    go_ret
    exact ⟨ret_bool (by rw [HV.out]), HB.out _ _⟩
  · obtain ⟨e1, n1⟩ := ne_facts h1
    cases q
    · have HV : Hid (confB a b = false) := Lib.hid (by unfold confB; have := hs.symm; simp only [Bool.and_eq_false_iff, decide_eq_false_iff_not] at this; rcases this with h | h <;> simp [h])
      clear h1 hs
      go_enter Try.func78, Try.ntmps78
      go_wp2
      go_ret
      exact ⟨ret_bool (by rw [HV.out]), HB.out _ _⟩
    · have hs2 := hs.symm
      simp only [Bool.and_eq_true, decide_eq_true_eq] at hs2
      by_cases h2 : a.mode = 2
      · obtain ⟨e2, n2⟩ := eq_facts h2
        have HV : Hid (confB a b = true) := Lib.hid (by unfold confB; simp [h1, hs2.1, hs2.2, h2])
        clear h1 hs hs2 h2
        go_enter Try.func78, Try.ntmps78
        go_wp2
        go_ret
        exact ⟨ret_bool (by rw [HV.out]), HB.out _ _⟩
      · obtain ⟨e2, n2⟩ := ne_facts h2
        have HV : Hid (confB a b = (b.mode == 2)) := Lib.hid (by unfold confB; simp [h1, hs2.1, hs2.2, h2, beq_dec'])
        clear h1 hs hs2 h2
        go_enter Try.func78, Try.ntmps78
        go_wp2
        go_ret
        exact ⟨ret_bool (by rw [HV.out]), HB.out _ _⟩
set_option maxHeartbeats 8000000 in
theorem pgrant_any (g : Gr) (w : World) : Calls Try.prog 43 #[.agg (grCells g).toArray] w fun e w' => e = .returned (.bool (grOkB g)) ∧ Below w.heap.size w w' := by
  have HB : Hid (∀ cs, Below w.heap.size w (w.alloc (.cells cs 29))) := fun cs => (Below.refl _ _).alloc (Nat.le_refl _) _
  have HV : Hid (grOkB g = (decide (1 ≤ g.tx) && (decide (g.tx ≤ 1073741824) && (decide (0 ≤ g.page) && (decide (g.page < 64) && (decide (0 ≤ g.slot) && (decide (g.slot < 16) && (decide (g.mode = 1) || decide (g.mode = 2))))))))) := rfl
  have m1 := beq_dec' g.mode 1
  have m2 := beq_dec' g.mode 2
  unfold grCells
  obtain ⟨p0, hp0⟩ : ∃ p, decide (1 ≤ g.tx) = p := ⟨_, rfl⟩
  obtain ⟨p1, hp1⟩ : ∃ p, decide (g.tx ≤ 1073741824) = p := ⟨_, rfl⟩
  obtain ⟨p2, hp2⟩ : ∃ p, decide (0 ≤ g.page) = p := ⟨_, rfl⟩
  obtain ⟨p3, hp3⟩ : ∃ p, decide (g.page < 64) = p := ⟨_, rfl⟩
  obtain ⟨p4, hp4⟩ : ∃ p, decide (0 ≤ g.slot) = p := ⟨_, rfl⟩
  obtain ⟨p5, hp5⟩ : ∃ p, decide (g.slot < 16) = p := ⟨_, rfl⟩
  obtain ⟨p6, hp6⟩ : ∃ p, decide (g.mode = 1) = p := ⟨_, rfl⟩
  obtain ⟨p7, hp7⟩ : ∃ p, decide (g.mode = 2) = p := ⟨_, rfl⟩
  simp only [hp0, hp1, hp2, hp3, hp4, hp5, hp6, hp7] at HV m1 m2
  cases p0
  · go_enter Try.func43, Try.ntmps43
    go_wp2
    go_ret
    exact ⟨ret_bool (by rw [HV.out]; first | rfl | simp), HB.out _⟩
  · skip
    cases p1
    · go_enter Try.func43, Try.ntmps43
      go_wp2
      go_ret
      exact ⟨ret_bool (by rw [HV.out]; first | rfl | simp), HB.out _⟩
    · skip
      cases p2
      · go_enter Try.func43, Try.ntmps43
        go_wp2
        go_ret
        exact ⟨ret_bool (by rw [HV.out]; first | rfl | simp), HB.out _⟩
      · skip
        cases p3
        · go_enter Try.func43, Try.ntmps43
          go_wp2
          go_ret
          exact ⟨ret_bool (by rw [HV.out]; first | rfl | simp), HB.out _⟩
        · skip
          cases p4
          · go_enter Try.func43, Try.ntmps43
            go_wp2
            go_ret
            exact ⟨ret_bool (by rw [HV.out]; first | rfl | simp), HB.out _⟩
          · skip
            cases p5
            · go_enter Try.func43, Try.ntmps43
              go_wp2
              go_ret
              exact ⟨ret_bool (by rw [HV.out]; first | rfl | simp), HB.out _⟩
            · skip
              cases p6
              · go_enter Try.func43, Try.ntmps43
                go_wp2
                go_ret
                exact ⟨ret_bool (by rw [HV.out]; first | rfl | simp), HB.out _⟩
              · go_enter Try.func43, Try.ntmps43
                go_wp2
                go_ret
                exact ⟨ret_bool (by rw [HV.out]; first | rfl | simp), HB.out _⟩
def GrFn (g : Nat) (lb : Array Value) (p : Gr → Bool) (l : List Gr) (w : World) : Prop :=
  ∀ W x, x ∈ l → Below w.heap.size w W → Calls Try.prog g (#[.agg (grCells x).toArray] ++ lb) W fun e w' => e = .returned (.bool (p x)) ∧ Below W.heap.size W w'
def GrAt (g : Nat) (lb : Array Value) (p : Gr → Bool) (l : List Gr) (R : List Rng) : Prop :=
  ∀ W x, x ∈ l → RdIn W R → Calls Try.prog g (#[.agg (grCells x).toArray] ++ lb) W fun e w' => e = .returned (.bool (p x)) ∧ Below W.heap.size W w'
theorem GrAt.fn {g : Nat} {lb : Array Value} {p : Gr → Bool} {l : List Gr} {R : List Rng} {w : World} (h : GrAt g lb p l R) (hR : RdIn w R) : GrFn g lb p l w := fun W x hx hb => h W x hx (hR.below hb)
def EntersF (g : Nat) : Prop := ∀ args w, (callFunc g args).run Try.prog w = .ok (.enter g args) w
theorem eg_of : EntersF 69 := enters_of Try.func69 (by kernel_rfl) rfl
theorem eg_against : EntersF 90 := enters_of Try.func90 (by kernel_rfl) rfl
set_option maxHeartbeats 4000000 in
theorem of_at (tx : Int) (b : Nat) (l : List Gr) : GrAt 69 #[.pointer (some ⟨b, 0, none⟩)] (fun x => decide (x.tx = tx)) l [(b, 0, [.int .i64 tx])] := by
  intro W x hx hR
  have hb := hR _ (List.mem_singleton.2 rfl)
  have c0 : W.cell? ⟨b, 0, none⟩ = some (.int .i64 tx) := hb.2 0 _ rfl
  have HV : Hid ((x.tx == tx) = decide (x.tx = tx)) := beq_dec' _ _
  have HLtb : Hid (b < W.heap.size) := (by have := hb.1; exact this)
  have h1 := (Hp.start W).put 29 (grCells x)
  have HS0 : Hid (Hp W [.ob W.heap.size 29 (grCells x)] (W.alloc (.cells #[.int .i64 x.tx, .int .i64 x.page, .int .i64 x.slot, .int .i64 x.mode] 29))) := h1
  clear h1
  clear hR hb
  show Calls Try.prog 69 #[.agg #[.int .i64 x.tx, .int .i64 x.page, .int .i64 x.slot, .int .i64 x.mode], .pointer (some ⟨b, 0, none⟩)] W _
  go_enter Try.func69, Try.ntmps69
  go_upto_region 1 with (fail)
  generalize (W.alloc (.cells #[.int .i64 x.tx, .int .i64 x.page, .int .i64 x.slot, .int .i64 x.mode] 29)) = w1 at *
  have x0 : w1.cell? ⟨W.heap.size, 0, none⟩ = some (.int .i64 x.tx) := HS0.out.at 0 rfl 0 rfl
  have x1 : w1.cell? ⟨W.heap.size, 1, none⟩ = some (.int .i64 x.page) := HS0.out.at 0 rfl 1 rfl
  have x2 : w1.cell? ⟨W.heap.size, 2, none⟩ = some (.int .i64 x.slot) := HS0.out.at 0 rfl 2 rfl
  have x3 : w1.cell? ⟨W.heap.size, 3, none⟩ = some (.int .i64 x.mode) := HS0.out.at 0 rfl 3 rfl
  have dc0 := (HS0.out.old.cell (p := ⟨b, 0, none⟩) HLtb.out).trans c0
  have HB := Lib.hid HS0.out.old
  clear HS0 c0
  go_wp2
  go_ret
  exact ⟨ret_bool HV.out, HB.out⟩
set_option maxHeartbeats 4000000 in
theorem against_at (g : Gr) (hg : GoodGr g) (b : Nat) (l : List Gr) (hl : ∀ x ∈ l, GoodGr x) : GrAt 90 #[.pointer (some ⟨b, 0, none⟩)] (fun x => confB g x) l [(b, 0, grCells g)] := by
  intro W x hx hR
  have hb := hR _ (List.mem_singleton.2 rfl)
  have c0 : W.cell? ⟨b, 0, none⟩ = some (.int .i64 g.tx) := hb.2 0 _ rfl
  have c1 : W.cell? ⟨b, 1, none⟩ = some (.int .i64 g.page) := hb.2 1 _ rfl
  have c2 : W.cell? ⟨b, 2, none⟩ = some (.int .i64 g.slot) := hb.2 2 _ rfl
  have c3 : W.cell? ⟨b, 3, none⟩ = some (.int .i64 g.mode) := hb.2 3 _ rfl
  have hc : ∀ V, Calls Try.prog 78 #[.agg #[.int .i64 g.tx, .int .i64 g.page, .int .i64 g.slot, .int .i64 g.mode], .agg #[.int .i64 x.tx, .int .i64 x.page, .int .i64 x.slot, .int .i64 x.mode]] V fun e w' => e = .returned (.bool (confB g x)) ∧ Below V.heap.size V w' := fun V => pconflict_any g x V hg (hl x hx)
  have HLtb : Hid (b < W.heap.size) := (by have := hb.1; exact this)
  have h1 := (Hp.start W).put 29 (grCells x)
  have HS0 : Hid (Hp W [.ob W.heap.size 29 (grCells x)] (W.alloc (.cells #[.int .i64 x.tx, .int .i64 x.page, .int .i64 x.slot, .int .i64 x.mode] 29))) := h1
  clear h1
  clear hR hb hg hl
  show Calls Try.prog 90 #[.agg #[.int .i64 x.tx, .int .i64 x.page, .int .i64 x.slot, .int .i64 x.mode], .pointer (some ⟨b, 0, none⟩)] W _
  go_enter Try.func90, Try.ntmps90
  go_upto_region 1 with (fail)
  generalize (W.alloc (.cells #[.int .i64 x.tx, .int .i64 x.page, .int .i64 x.slot, .int .i64 x.mode] 29)) = w1 at *
  have x0 : w1.cell? ⟨W.heap.size, 0, none⟩ = some (.int .i64 x.tx) := HS0.out.at 0 rfl 0 rfl
  have x1 : w1.cell? ⟨W.heap.size, 1, none⟩ = some (.int .i64 x.page) := HS0.out.at 0 rfl 1 rfl
  have x2 : w1.cell? ⟨W.heap.size, 2, none⟩ = some (.int .i64 x.slot) := HS0.out.at 0 rfl 2 rfl
  have x3 : w1.cell? ⟨W.heap.size, 3, none⟩ = some (.int .i64 x.mode) := HS0.out.at 0 rfl 3 rfl
  have dc0 := (HS0.out.old.cell (p := ⟨b, 0, none⟩) HLtb.out).trans c0
  have dc1 := (HS0.out.old.cell (p := ⟨b, 1, none⟩) HLtb.out).trans c1
  have dc2 := (HS0.out.old.cell (p := ⟨b, 2, none⟩) HLtb.out).trans c2
  have dc3 := (HS0.out.old.cell (p := ⟨b, 3, none⟩) HLtb.out).trans c3
  have HB := Lib.hid HS0.out.old
  clear HS0 c0 c1 c2 c3
  go_wp2_with (go_at_call 78; refine (hc _).mono ?_; rintro e w2 ⟨rfl, hb⟩)
  go_ret
  exact ⟨rfl, HB.out.trans (hb.mono HB.out.size)⟩
end Go.Proofs.Ytooaldglgkjjgaa
/- the library's searches through grants, by whatever function that reads, and in the order of what is held; what the program makes of them (locks) -/
namespace Go.Proofs.Ytooaldglgkjjgaa
open Go.RowKit
set_option maxRecDepth 20000
set_option linter.unusedSimpArgs false
set_option linter.unusedVariables false

/-- where the first one is, or -1 -/
def idxR {α : Type} (p : α → Bool) (l : List α) : Int := match l.findIdx? p with | some i => (i : Int) | none => -1
theorem idxR_none {α : Type} {p : α → Bool} {l : List α} (h : l.all (fun x => !p x) = true) : idxR p l = -1 := by
  unfold idxR
  have : l.findIdx? p = none := by
    rw [List.findIdx?_eq_none_iff]
    intro x hx
    have := (List.all_eq_true.1 h) x hx
    simpa using this
  rw [this]
theorem idxR_some {α : Type} {p : α → Bool} {l : List α} {k : Nat} (h : k < l.length) (hb : (l.take k).all (fun x => !p x) = true) (hx : p l[k] = true) : idxR p l = (k : Int) := by
  unfold idxR
  have : l.findIdx? p = some k := by
    rw [List.findIdx?_eq_some_iff_getElem]
    refine ⟨h, hx, fun j hj => ?_⟩
    have h1 : l[j] ∈ l.take k := by
      rw [List.mem_take_iff_getElem]
      exact ⟨j, by omega, rfl⟩
    have := (List.all_eq_true.1 hb) _ h1
    simpa using this
  rw [this]
set_option maxHeartbeats 4000000 in
theorem idxGr_any (g : Nat) (lb : Array Value) (q : Gr → Bool) (l : List Gr) (v : Value) (R : List Rng) (w : World) (eg : EntersF g) (hp : GrFn g lb q l w) (hv : GrRd v l R) (hR : RdIn w R) (hl : l.length ≤ 200000) :
    Calls Try.prog 59 #[v, .func (.func g) #[] lb] w fun e w' => e = .returned (.int .i64 (idxR q l)) ∧ Below w.heap.size w w' := by
  obtain ⟨a, cap, rfl, hnc, hcm, hg⟩ := SlRd.open hv hR
  obtain ⟨fs, huf⟩ := under_gr
  have HUF := Lib.hid huf
  have HC : Hid (l.length ≤ cap ∧ cap ≤ maxLen) := ⟨hnc, hcm⟩
  have HL := Lib.hid hl
  have HP := Lib.hid hp
  clear hv hR hnc hcm hl huf hp
  unfold EntersF at eg
  go_enter Try.func59, Try.ntmps59
  go_wp2_with fail
  go_loopw [8] (fun i wr => ∃ k : Nat, k ≤ l.length ∧ i = .int .i64 k ∧ (l.take k).all (fun x => !q x) = true ∧ Below w.heap.size w wr) (fun i _ => l.length - (intOf i).toNat)
  case atStart => exact ⟨0, by omega, rfl, rfl, Below.refl _ _⟩
  case round =>
    obtain ⟨k, hk, rfl, hh, hb⟩ := hrel
    have HB := Lib.hid hb
    have HH := Lib.hid hh
    clear hb hh
    by_cases hlt : k < l.length
    · obtain ⟨b, off, rfl, hr⟩ := hg.out (by omega)
      obtain ⟨x, hx⟩ : ∃ x, l[k] = x := ⟨_, rfl⟩
      have hcells : Hid (wr.rangeAt b (off + k * 4) (grCells x)) := fun j u hj => by
        rw [Nat.add_assoc]
        exact hr wr HB.out (k * 4 + j) u (grRow_at l k x (by rw [List.getElem?_eq_getElem hlt, hx]) j u hj)
      have hki : (k : Int) < (l.length : Int) := by omega
      have hk0 : (0 : Int) ≤ (k : Int) := by omega
      have hkm : (k : Int) < 200001 := by have := HL.out; omega
      have hcall := HP.out wr x (by rw [← hx]; exact List.getElem_mem hlt) HB.out
      have HY : Hid (q x = true → idxR q l = (k : Int)) := fun h => idxR_some hlt HH.out (by rw [hx]; exact h)
      have HN : Hid (q x = false → (l.take (k + 1)).all (fun x => !q x) = true) := fun h => all_take (f := fun x => !q x) hlt HH.out (by rw [hx, h]; rfl)
      clear hr hx
      cases hq : q x
      · have HX := HN.out hq
        rw [hq] at hcall
        have HX2 := Lib.hid HX
        clear HX HY HN
        go_wp2_with (first | ((with_reducible refine wpList_load_at 29 (.tmp 14) b (off + k * 4) (grCells x) HUF.out ?_ ?_ ?_ ?_ ?_); (exact rfl); (exact hcells.out); (exact rfl); (exact info_gr); simp only [Act.put, List.setIfInBounds_toArray, List.set_cons_zero, List.set_cons_succ]))
        refine hcall.mono ?_
        rintro e w2 ⟨rfl, hb⟩
        have HB2 : Hid (Below w.heap.size w w2) := HB.out.trans (hb.mono HB.out.size)
        clear hb
        go_wp2_with fail
        go_roundw
        case rel => exact ⟨k + 1, by omega, by go_num, HX2.out, HB2.out⟩
        case measure => simp [intOf]; omega
      · have HX := Lib.hid (HY.out hq)
        rw [hq] at hcall
        clear HY HN
        go_wp2_with (first | ((with_reducible refine wpList_load_at 29 (.tmp 14) b (off + k * 4) (grCells x) HUF.out ?_ ?_ ?_ ?_ ?_); (exact rfl); (exact hcells.out); (exact rfl); (exact info_gr); simp only [Act.put, List.setIfInBounds_toArray, List.set_cons_zero, List.set_cons_succ]))
        refine hcall.mono ?_
        rintro e w2 ⟨rfl, hb⟩
        have HB2 : Hid (Below w.heap.size w w2) := HB.out.trans (hb.mono HB.out.size)
        clear hb
        go_wp2_with fail
        go_ret
        exact ⟨by rw [HX.out]; rfl, HB2.out⟩
    · obtain rfl : k = l.length := by omega
      rw [List.take_length] at HH
      have HX := Lib.hid (idxR_none HH.out)
      go_wp2_with fail
      go_ret
      exact ⟨by rw [HX.out]; rfl, HB.out⟩
theorem idxR_nonneg {α : Type} (p : α → Bool) (l : List α) : decide (0 ≤ idxR p l) = l.any p := by
  unfold idxR
  cases h : l.findIdx? p with
  | none =>
    rw [List.findIdx?_eq_none_iff] at h
    have : l.any p = false := by rw [List.any_eq_false]; intro x hx; simp [h x hx]
    rw [this]; rfl
  | some i =>
    obtain ⟨hi, hx, _⟩ := List.findIdx?_eq_some_iff_getElem.1 h
    have : l.any p = true := List.any_eq_true.2 ⟨_, List.getElem_mem hi, hx⟩
    rw [this]
    simp
set_option maxHeartbeats 4000000 in
theorem contains_any (g : Nat) (lb : Array Value) (q : Gr → Bool) (l : List Gr) (v : Value) (R : List Rng) (w : World) (eg : EntersF g) (hp : GrFn g lb q l w) (hv : GrRd v l R) (hR : RdIn w R) (hl : l.length ≤ 200000) :
    Calls Try.prog 64 #[v, .func (.func g) #[] lb] w fun e w' => e = .returned (.bool (l.any q)) ∧ Below w.heap.size w w' := by
  have hIx := idxGr_any g lb q l v R w eg hp hv hR hl
  have hd := idxR_nonneg q l
  rw [← hd]
  generalize idxR q l = i at *
  clear hd hp hv hR hl eg
  go_enter Try.func64, Try.ntmps64
  go_wp2_with fail
  refine hIx.mono ?_
  rintro e w2 ⟨rfl, hb⟩
  clear hIx
  have HB := Lib.hid hb
  clear hb
  go_wp2_with fail
  go_ret
  exact ⟨rfl, HB.out⟩
structure PosG (t : Gr) (l : List Gr) (i : Nat) : Prop where
  le : i ≤ l.length
  low : ∀ j (h : j < l.length), j < i → GLt l[j] t
  high : ∀ j (h : j < l.length), i ≤ j → ¬ GLt l[j] t
theorem GLt.notlt {a b c : Gr} (h : GLt a b) (k : ¬ GLt a c) : ¬ GLt b c := fun h2 => k (h.trans h2)
def keyAt (l : List Gr) (i : Nat) (t : Gr) : Bool := match l[i]? with | some x => keyB x t.tx t.page t.slot | none => false
set_option maxHeartbeats 8000000 in
theorem binSearch_any (t : Gr) (l : List Gr) (v : Value) (R : List Rng) (w : World) (hs : l.Pairwise GLt) (hv : GrRd v l R) (hR : RdIn w R) (hl : l.length ≤ 200000) :
    Calls Try.prog 91 #[v, .agg (grCells t).toArray, .func (.func 77) #[] #[]] w fun e w' => ∃ i : Nat, e = .returned (.tuple #[.int .i64 i, .bool (keyAt l i t)]) ∧ PosG t l i ∧ Below w.heap.size w w' := by
  obtain ⟨a, cap, rfl, hnc, hcm, hg⟩ := SlRd.open hv hR
  obtain ⟨fs, huf⟩ := under_gr
  have HUG := Lib.hid huf
  have HC : Hid (l.length ≤ cap ∧ cap ≤ maxLen) := ⟨hnc, hcm⟩
  have HL := Lib.hid hl
  have HS := Lib.hid hs
  have eg : ∀ args w, (callFunc 77 args).run Try.prog w = .ok (.enter 77 args) w := enters_of Try.func77 (by kernel_rfl) rfl
  have HOr : Hid (∀ x W, Calls Try.prog 77 #[.agg (grCells x).toArray, .agg (grCells t).toArray] W fun e w' => e = .returned (.int .i64 (ordI x t)) ∧ Below W.heap.size W w') := fun x W => order_any x t W
  have h1 := (Hp.start w).put 29 (grCells t)
  have HS0 : Hid (Hp w [.ob w.heap.size 29 (grCells t)] (w.alloc (.cells (grCells t).toArray 29))) := h1
  clear hv hR hnc hcm hl hs huf h1
  go_enter Try.func91, Try.ntmps91
  go_upto_region 1 with (fail)
  generalize (w.alloc (.cells (grCells t).toArray 29)) = w1 at *
  go_wp2_with fail
  go_loopw [9, 10] (fun si sj wr => ∃ i j : Nat, si = .int .i64 i ∧ sj = .int .i64 j ∧ i ≤ j ∧ j ≤ l.length ∧ (∀ k (h : k < l.length), k < i → GLt l[k] t) ∧ (∀ k (h : k < l.length), j ≤ k → ¬ GLt l[k] t) ∧ Hp w [.ob w.heap.size 29 (grCells t)] wr) (fun si sj _ => (intOf sj).toNat - (intOf si).toNat)
  case atStart => exact ⟨0, l.length, rfl, rfl, by omega, by omega, fun k h hk => absurd hk (Nat.not_lt_zero _), fun k h hk => absurd hk (by omega), HS0.out⟩
  case round =>
    clear HS0
    obtain ⟨i, j, rfl, rfl, hij, hj, hlo, hhi, hsr⟩ := hrel
    have HLo := Lib.hid hlo
    have HHi := Lib.hid hhi
    have HIJ : Hid (i ≤ j ∧ j ≤ l.length) := ⟨hij, hj⟩
    have HY := Lib.hid hsr
    clear hlo hhi hsr
    by_cases hlt : i < j
    · obtain ⟨h, hh⟩ : ∃ h, (i + j) / 2 = h := ⟨_, rfl⟩
      have hih : i ≤ h ∧ h < j := by omega
      have hhl : h < l.length := by omega
      obtain ⟨b, off, rfl, hr⟩ := hg.out (by omega)
      obtain ⟨y, hy⟩ : ∃ y, l[h]? = some y := ⟨_, List.getElem?_eq_getElem hhl⟩
      have HRow : Hid (∀ W, Below w.heap.size w W → W.rangeAt b (off + h * 4) (grCells y)) := fun W hb => elem_rng (hr W hb) hy
      have hlm : (l.length : Int) < 200001 := by have := HL.out; omega
      have hi1 : (i : Int) < (j : Int) := by omega
      have hw0 : IntKind.i64.wrap ((i : Int) + (j : Int)) = (i : Int) + (j : Int) := by rw [IntKind.wrap_i64]; omega
      have hw1 : IntKind.u64.wrap ((i : Int) + (j : Int)) = (i : Int) + (j : Int) := by rw [IntKind.wrap_u64]; omega
      have hw2 : ((i : Int) + (j : Int)) / 2 = (h : Int) := by omega
      have hw3 : IntKind.i64.wrap (h : Int) = (h : Int) := by rw [IntKind.wrap_i64]; omega
      have hw4 : IntKind.u64.wrap (h : Int) = (h : Int) := by rw [IntKind.wrap_u64]; omega
      have hh0 : (0 : Int) ≤ (h : Int) := by omega
      have hhl2 : (h : Int) < (l.length : Int) := by omega
      have hw5 : IntKind.i64.wrap ((h : Int) + 1) = (h : Int) + 1 := by rw [IntKind.wrap_i64]; omega
      have HH : Hid (i ≤ h ∧ h < j ∧ h < l.length) := ⟨hih.1, hih.2, hhl⟩
      have hyy : l[h] = y := by rw [List.getElem?_eq_getElem hhl] at hy; exact Option.some.inj hy
      have hmono : Hid (∀ k (hk : k < l.length), k ≤ h → GLt y t → GLt l[k] t) := fun k hk hkh hyt => by
        rcases Nat.lt_or_eq_of_le hkh with h1 | h1
        · have := List.pairwise_iff_getElem.1 HS.out k h hk hhl h1
          rw [hyy] at this; exact this.trans hyt
        · subst h1; rw [hyy]; exact hyt
      have hmono2 : Hid (∀ k (hk : k < l.length), h ≤ k → ¬ GLt y t → ¬ GLt l[k] t) := fun k hk hkh hyt => by
        rcases Nat.lt_or_eq_of_le hkh with h1 | h1
        · have := List.pairwise_iff_getElem.1 HS.out h k hhl hk h1
          rw [hyy] at this; exact this.notlt hyt
        · subst h1; rw [hyy]; exact hyt
      have hor := HOr.out y
      have hneg := @ordI_neg y t
      clear hr hy hyy hg hih hh hhl HOr
      generalize ordI y t = o at *
      obtain ⟨q, hq⟩ : ∃ q, decide (o < 0) = q := ⟨_, rfl⟩
      go_upto_region 5 with (fail)
      refine wp_region_held_drew (S := fun w' => w'.rangeAt b (off + h * 4) (grCells y) ∧ w'.rangeAt w.heap.size 0 (grCells t)) (by kernel_rfl) (⟨HRow.out _ ((HY.out).drew).old, (fun j v hv => by rw [Nat.zero_add]; exact ((HY.out).drew).at 0 rfl j hv)⟩) (fun hHeld => ?_)
      refine wpAnyH_take (i := 0) (oi := { dst := some 24, op := Op.move (Operand.tmp 2), type := 95, pos := "sort.go:160", after := #[], guard := none }) (v := ?q1v) rfl (by kernel_rfl) (by kernel_rfl) (by kernel_rfl) (fun _ _ _ h => h) (Or.inl ⟨by rfl, ?q1h⟩) hHeld ?q1r
      case q1h => (intro wq hSw; clear hSw; go_simp; try with_reducible rfl)
      try simp only [Act.put, List.setIfInBounds_toArray, List.set_cons_zero, List.set_cons_succ]
      refine wpAnyH_take (i := 1) (oi := { dst := some 25, op := Op.move (Operand.tmp 0), type := 23, pos := "sort.go:160", after := #[], guard := none }) (v := ?q2v) rfl (by kernel_rfl) (by kernel_rfl) (by kernel_rfl) (fun _ _ _ h => h) (Or.inl ⟨by rfl, ?q2h⟩) hHeld ?q2r
      case q2h => (intro wq hSw; clear hSw; go_simp; try with_reducible rfl)
      try simp only [Act.put, List.setIfInBounds_toArray, List.set_cons_zero, List.set_cons_succ]
      refine wpAnyH_take (i := 2) (oi := { dst := some 26, op := Op.move (Operand.tmp 11), type := 3, pos := "sort.go:160", after := #[], guard := none }) (v := ?q3v) rfl (by kernel_rfl) (by kernel_rfl) (by kernel_rfl) (fun _ _ _ h => h) (Or.inl ⟨by rfl, ?q3h⟩) hHeld ?q3r
      case q3h => (intro wq hSw; clear hSw; go_simp; try with_reducible rfl)
      try simp only [Act.put, List.setIfInBounds_toArray, List.set_cons_zero, List.set_cons_succ]
      refine wpAnyH_take (i := 3) (oi := { dst := some 27, op := Op.indexAddr 23 (Operand.tmp 25) (Operand.tmp 26), type := 0, pos := "sort.go:160", after := #[{ on := 1, ground := Ground.data }, { on := 2, ground := Ground.data }], guard := none }) (v := ?q4v) rfl (by kernel_rfl) (by kernel_rfl) (by kernel_rfl) (fun _ _ _ h => h) (Or.inl ⟨by rfl, ?q4h⟩) hHeld ?q4r
      case q4h => (intro wq hSw; clear hSw; go_simp; try with_reducible rfl)
      try simp only [Act.put, List.setIfInBounds_toArray, List.set_cons_zero, List.set_cons_succ]
      refine wpAnyH_take (i := 4) (oi := { dst := some 28, op := Op.load 29 (Operand.tmp 27), type := 29, pos := "sort.go:160", after := #[{ on := 3, ground := Ground.data }], guard := none }) rfl (by kernel_rfl) (by kernel_rfl) (by kernel_rfl) (fun _ _ _ h => h) (yieldsIf_load_mid (by rfl) 29 (.tmp 27) rfl b (off + h * 4) rfl (grCells y) _ (fun _ h => h.1) HUG.out rfl (info_gr)) hHeld ?_
      try simp only [Act.put, List.setIfInBounds_toArray, List.set_cons_zero, List.set_cons_succ]
      refine wpAnyH_take (i := 5) (oi := { dst := some 29, op := Op.load 29 (Operand.tmp 4), type := 29, pos := "sort.go:160", after := #[], guard := none }) rfl (by kernel_rfl) (by kernel_rfl) (by kernel_rfl) (fun _ _ _ h => h) (yieldsIf_load_mid (by rfl) 29 (.tmp 4) rfl w.heap.size (0) rfl (grCells t) _ (fun _ h => h.2) HUG.out rfl (info_gr)) hHeld ?_
      try simp only [Act.put, List.setIfInBounds_toArray, List.set_cons_zero, List.set_cons_succ]
      refine wpAnyH_ready (rs := [6]) (by kernel_rfl) (by simp) ?_
      refine AllReadyH.cons (o := { dst := some 30, op := Op.call { callee := Callee.value (Operand.tmp 24), args := #[Operand.tmp 28, Operand.tmp 29], argTypes := #[29, 29] }, type := 3, pos := "sort.go:160", after := #[{ on := 0, ground := Ground.data }, { on := 4, ground := Ground.data }, { on := 5, ground := Ground.data }], guard := none }) rfl (fun K hK => ?_) (AllReadyH.nil)
      go_simp
      go_wp2_with fail
      refine (hor _).mono ?_
      rintro e w1 ⟨rfl, hb⟩
      have HS1 : Hid (Hp w [.ob (w.heap.size) 29 (grCells t)] w1) := ((HY.out).drew).calls hb
      refine hK.out _ _ (⟨HRow.out _ (HS1.out).old, (fun j v hv => by rw [Nat.zero_add]; exact (HS1.out).at 0 rfl j hv)⟩) (fun hHeld => ?_)
      clear hK K hb
      try simp only [Act.put, List.setIfInBounds_toArray, List.set_cons_zero, List.set_cons_succ]
      refine wpAnyH_take (i := 7) (oi := { dst := some 31, op := Op.binOp BinOp.lss 3 (Operand.tmp 30) (Operand.const (Value.int IntKind.i64 0)) 3, type := 4, pos := "sort.go:160", after := #[{ on := 6, ground := Ground.data }], guard := none }) (v := .bool q) rfl (by kernel_rfl) (by kernel_rfl) (by kernel_rfl) (fun _ _ _ h => h) (Or.inl ⟨by rfl, ?q7h⟩) hHeld ?q7r
      case q7h => (intro wq hSw; clear hSw; go_simp; try with_reducible rfl)
      try simp only [Act.put, List.setIfInBounds_toArray, List.set_cons_zero, List.set_cons_succ]
      refine wpAnyH_done (by kernel_rfl) ?_ _
      clear hHeld hor hw0 hw1 hw2 hw3 hw4 hlm hi1
      cases q
      case true =>
        have HG := Lib.hid (hneg.1 (of_decide_eq_true hq))
        clear hneg hq
        go_wp2_with fail
        go_roundw
        case rel => exact ⟨h + 1, j, by go_num, rfl, by have := HH.out; omega, HIJ.out.2, fun k hk hkh => hmono.out k hk (by omega) HG.out, HHi.out, HS1.out⟩
        case measure => have := HH.out; simp [intOf]; omega
      case false =>
        have HG := Lib.hid (fun h => of_decide_eq_false hq (hneg.2 h))
        clear hneg hq
        go_wp2_with fail
        go_roundw
        case rel => exact ⟨i, h, rfl, rfl, HH.out.1, by have := HH.out; omega, HLo.out, fun k hk hkh => hmono2.out k hk hkh HG.out, HS1.out⟩
        case measure => have := HH.out; simp [intOf]; omega
    · obtain rfl : i = j := by omega
      have HP : Hid (PosG t l i) := ⟨hj, HLo.out, fun k hk hik => HHi.out k hk hik⟩
      have hlm : (l.length : Int) < 200001 := by have := HL.out; omega
      have hi0 : (0 : Int) ≤ (i : Int) := by omega
      by_cases hil : i < l.length
      · obtain ⟨b, off, rfl, hr⟩ := hg.out (by omega)
        obtain ⟨y, hy⟩ : ∃ y, l[i]? = some y := ⟨_, List.getElem?_eq_getElem hil⟩
        have HRow : Hid (∀ W, Below w.heap.size w W → W.rangeAt b (off + i * 4) (grCells y)) := fun W hb => elem_rng (hr W hb) hy
        have hi1 : (i : Int) < (l.length : Int) := by omega
        have hor := HOr.out y
        have hzero := @ordI_zero y t
        have HKey : Hid (keyAt l i t = keyB y t.tx t.page t.slot) := Lib.hid (by unfold keyAt; rw [hy])
        have HKb : Hid (keyB y t.tx t.page t.slot = decide (ordI y t = 0)) := Lib.hid (by rw [Bool.eq_iff_iff, keyB_iff, decide_eq_true_eq]; exact hzero.symm)
        clear hr hy hg HOr hzero
        generalize ordI y t = o at *
        go_upto_region 8 with (fail)
        refine wp_region_held_drew (S := fun w' => w'.rangeAt b (off + i * 4) (grCells y) ∧ w'.rangeAt w.heap.size 0 (grCells t)) (by kernel_rfl) (⟨HRow.out _ ((HY.out).drew).old, (fun j v hv => by rw [Nat.zero_add]; exact ((HY.out).drew).at 0 rfl j hv)⟩) (fun hHeld => ?_)
        refine wpAnyH_take (i := 0) (oi := { dst := some 35, op := Op.move (Operand.tmp 9), type := 3, pos := "sort.go:167", after := #[], guard := none }) (v := ?q101v) rfl (by kernel_rfl) (by kernel_rfl) (by kernel_rfl) (fun _ _ _ h => h) (Or.inl ⟨by rfl, ?q101h⟩) hHeld ?q101r
        case q101h => (intro wq hSw; clear hSw; go_simp; try with_reducible rfl)
        try simp only [Act.put, List.setIfInBounds_toArray, List.set_cons_zero, List.set_cons_succ]
        refine wpAnyH_take (i := 1) (oi := { dst := some 36, op := Op.move (Operand.tmp 9), type := 3, pos := "sort.go:167", after := #[], guard := none }) (v := ?q102v) rfl (by kernel_rfl) (by kernel_rfl) (by kernel_rfl) (fun _ _ _ h => h) (Or.inl ⟨by rfl, ?q102h⟩) hHeld ?q102r
        case q102h => (intro wq hSw; clear hSw; go_simp; try with_reducible rfl)
        try simp only [Act.put, List.setIfInBounds_toArray, List.set_cons_zero, List.set_cons_succ]
        refine wpAnyH_take (i := 2) (oi := { dst := some 37, op := Op.move (Operand.tmp 8), type := 3, pos := "sort.go:167", after := #[], guard := none }) (v := ?q103v) rfl (by kernel_rfl) (by kernel_rfl) (by kernel_rfl) (fun _ _ _ h => h) (Or.inl ⟨by rfl, ?q103h⟩) hHeld ?q103r
        case q103h => (intro wq hSw; clear hSw; go_simp; try with_reducible rfl)
        try simp only [Act.put, List.setIfInBounds_toArray, List.set_cons_zero, List.set_cons_succ]
        refine wpAnyH_take (i := 3) (oi := { dst := some 38, op := Op.binOp BinOp.lss 3 (Operand.tmp 36) (Operand.tmp 37) 3, type := 4, pos := "sort.go:167", after := #[{ on := 1, ground := Ground.data }, { on := 2, ground := Ground.data }], guard := none }) (v := .bool true) rfl (by kernel_rfl) (by kernel_rfl) (by kernel_rfl) (fun _ _ _ h => h) (Or.inl ⟨by rfl, ?q104h⟩) hHeld ?q104r
        case q104h => (intro wq hSw; clear hSw; go_simp; try with_reducible rfl)
        try simp only [Act.put, List.setIfInBounds_toArray, List.set_cons_zero, List.set_cons_succ]
        refine wpAnyH_take (i := 4) (oi := { dst := some 39, op := Op.move (Operand.tmp 38), type := 4, pos := "sort.go:167", after := #[{ on := 3, ground := Ground.data }], guard := none }) (v := ?q105v) rfl (by kernel_rfl) (by kernel_rfl) (by kernel_rfl) (fun _ _ _ h => h) (Or.inl ⟨by rfl, ?q105h⟩) hHeld ?q105r
        case q105h => (intro wq hSw; clear hSw; go_simp; try with_reducible rfl)
        try simp only [Act.put, List.setIfInBounds_toArray, List.set_cons_zero, List.set_cons_succ]
        refine wpAnyH_take (i := 5) (oi := { dst := some 40, op := Op.move (Operand.tmp 2), type := 95, pos := "sort.go:167", after := #[{ on := 4, ground := Ground.guard }], guard := some (4, true) }) (v := ?q106v) rfl (by kernel_rfl) (by kernel_rfl) (by kernel_rfl) (fun _ _ _ h => h) (Or.inl ⟨by rfl, ?q106h⟩) hHeld ?q106r
        case q106h => (intro wq hSw; clear hSw; go_simp; try with_reducible rfl)
        try simp only [Act.put, List.setIfInBounds_toArray, List.set_cons_zero, List.set_cons_succ]
        refine wpAnyH_take (i := 6) (oi := { dst := some 41, op := Op.move (Operand.tmp 0), type := 23, pos := "sort.go:167", after := #[{ on := 4, ground := Ground.guard }], guard := some (4, true) }) (v := ?q107v) rfl (by kernel_rfl) (by kernel_rfl) (by kernel_rfl) (fun _ _ _ h => h) (Or.inl ⟨by rfl, ?q107h⟩) hHeld ?q107r
        case q107h => (intro wq hSw; clear hSw; go_simp; try with_reducible rfl)
        try simp only [Act.put, List.setIfInBounds_toArray, List.set_cons_zero, List.set_cons_succ]
        refine wpAnyH_take (i := 7) (oi := { dst := some 42, op := Op.move (Operand.tmp 9), type := 3, pos := "sort.go:167", after := #[{ on := 4, ground := Ground.guard }], guard := some (4, true) }) (v := ?q108v) rfl (by kernel_rfl) (by kernel_rfl) (by kernel_rfl) (fun _ _ _ h => h) (Or.inl ⟨by rfl, ?q108h⟩) hHeld ?q108r
        case q108h => (intro wq hSw; clear hSw; go_simp; try with_reducible rfl)
        try simp only [Act.put, List.setIfInBounds_toArray, List.set_cons_zero, List.set_cons_succ]
        refine wpAnyH_take (i := 8) (oi := { dst := some 43, op := Op.indexAddr 23 (Operand.tmp 41) (Operand.tmp 42), type := 0, pos := "sort.go:167", after := #[{ on := 6, ground := Ground.data }, { on := 7, ground := Ground.data }, { on := 4, ground := Ground.guard }], guard := some (4, true) }) (v := ?q109v) rfl (by kernel_rfl) (by kernel_rfl) (by kernel_rfl) (fun _ _ _ h => h) (Or.inl ⟨by rfl, ?q109h⟩) hHeld ?q109r
        case q109h => (intro wq hSw; clear hSw; go_simp; try with_reducible rfl)
        try simp only [Act.put, List.setIfInBounds_toArray, List.set_cons_zero, List.set_cons_succ]
        refine wpAnyH_take (i := 9) (oi := { dst := some 44, op := Op.load 29 (Operand.tmp 43), type := 29, pos := "sort.go:167", after := #[{ on := 8, ground := Ground.data }, { on := 4, ground := Ground.guard }], guard := some (4, true) }) rfl (by kernel_rfl) (by kernel_rfl) (by kernel_rfl) (fun _ _ _ h => h) (yieldsIf_load_mid (by rfl) 29 (.tmp 43) rfl b (off + i * 4) rfl (grCells y) _ (fun _ h => h.1) HUG.out rfl (info_gr)) hHeld ?_
        try simp only [Act.put, List.setIfInBounds_toArray, List.set_cons_zero, List.set_cons_succ]
        refine wpAnyH_take (i := 10) (oi := { dst := some 45, op := Op.load 29 (Operand.tmp 4), type := 29, pos := "sort.go:167", after := #[{ on := 4, ground := Ground.guard }], guard := some (4, true) }) rfl (by kernel_rfl) (by kernel_rfl) (by kernel_rfl) (fun _ _ _ h => h) (yieldsIf_load_mid (by rfl) 29 (.tmp 4) rfl w.heap.size (0) rfl (grCells t) _ (fun _ h => h.2) HUG.out rfl (info_gr)) hHeld ?_
        try simp only [Act.put, List.setIfInBounds_toArray, List.set_cons_zero, List.set_cons_succ]
        refine wpAnyH_ready (rs := [11]) (by kernel_rfl) (by simp) ?_
        refine AllReadyH.cons (o := { dst := some 46, op := Op.call { callee := Callee.value (Operand.tmp 40), args := #[Operand.tmp 44, Operand.tmp 45], argTypes := #[29, 29] }, type := 3, pos := "sort.go:167", after := #[{ on := 5, ground := Ground.data }, { on := 9, ground := Ground.data }, { on := 10, ground := Ground.data }, { on := 4, ground := Ground.chain }, { on := 4, ground := Ground.guard }], guard := some (4, true) }) rfl (fun K hK => ?_) (AllReadyH.nil)
        go_simp
        go_wp2_with fail
        refine (hor _).mono ?_
        rintro e w1 ⟨rfl, hb⟩
        have HS1 : Hid (Hp w [.ob (w.heap.size) 29 (grCells t)] w1) := ((HY.out).drew).calls hb
        refine hK.out _ _ (⟨HRow.out _ (HS1.out).old, (fun j v hv => by rw [Nat.zero_add]; exact (HS1.out).at 0 rfl j hv)⟩) (fun hHeld => ?_)
        clear hK K hb
        try simp only [Act.put, List.setIfInBounds_toArray, List.set_cons_zero, List.set_cons_succ]
        refine wpAnyH_take (i := 12) (oi := { dst := some 47, op := Op.binOp BinOp.eql 3 (Operand.tmp 46) (Operand.const (Value.int IntKind.i64 0)) 3, type := 4, pos := "sort.go:167", after := #[{ on := 11, ground := Ground.data }, { on := 4, ground := Ground.guard }, { on := 14, ground := Ground.gcOnly Departure.lateStores }], guard := some (4, true) }) (v := ?q112v) rfl (by kernel_rfl) (by kernel_rfl) (by kernel_rfl) (fun _ _ _ h => h) (Or.inl ⟨by rfl, ?q112h⟩) hHeld ?q112r
        case q112h => (intro wq hSw; clear hSw; go_simp; try with_reducible rfl)
        try simp only [Act.put, List.setIfInBounds_toArray, List.set_cons_zero, List.set_cons_succ]
        refine wpAnyH_take (i := 13) (oi := { dst := some 48, op := Op.pick (Operand.tmp 39) (Operand.tmp 47) (Operand.const (Value.bool false)), type := 4, pos := "sort.go:167", after := #[{ on := 4, ground := Ground.data }, { on := 12, ground := Ground.data }, { on := 14, ground := Ground.gcOnly Departure.lateStores }], guard := none }) (v := ?q113v) rfl (by kernel_rfl) (by kernel_rfl) (by kernel_rfl) (fun _ _ _ h => h) (Or.inl ⟨by rfl, ?q113h⟩) hHeld ?q113r
        case q113h => (intro wq hSw; clear hSw; go_simp; try with_reducible rfl)
        try simp only [Act.put, List.setIfInBounds_toArray, List.set_cons_zero, List.set_cons_succ]
        refine wpAnyH_take (i := 14) (oi := { dst := some 6, op := Op.assign (Operand.tmp 35), type := 3, pos := "sort.go:167", after := #[{ on := 0, ground := Ground.data }, { on := 11, ground := Ground.chain }, { on := 0, ground := Ground.phase }, { on := 1, ground := Ground.textOnly Departure.lateStores }, { on := 2, ground := Ground.textOnly Departure.lateStores }, { on := 3, ground := Ground.textOnly Departure.lateStores }, { on := 4, ground := Ground.textOnly Departure.lateStores }, { on := 5, ground := Ground.textOnly Departure.lateStores }, { on := 6, ground := Ground.textOnly Departure.lateStores }, { on := 7, ground := Ground.textOnly Departure.lateStores }, { on := 8, ground := Ground.textOnly Departure.lateStores }, { on := 9, ground := Ground.textOnly Departure.lateStores }, { on := 10, ground := Ground.textOnly Departure.lateStores }, { on := 11, ground := Ground.textOnly Departure.lateStoresUnsure }, { on := 12, ground := Ground.textOnly Departure.lateStores }, { on := 13, ground := Ground.textOnly Departure.lateStores }], guard := none }) (v := ?q114v) rfl (by kernel_rfl) (by kernel_rfl) (by kernel_rfl) (fun _ _ _ h => h) (Or.inl ⟨by rfl, ?q114h⟩) hHeld ?q114r
        case q114h => (intro wq hSw; clear hSw; go_simp; try with_reducible rfl)
        try simp only [Act.put, List.setIfInBounds_toArray, List.set_cons_zero, List.set_cons_succ]
        refine wpAnyH_take (i := 15) (oi := { dst := some 7, op := Op.assign (Operand.tmp 48), type := 4, pos := "sort.go:167", after := #[{ on := 13, ground := Ground.data }, { on := 14, ground := Ground.chain }, { on := 0, ground := Ground.phase }, { on := 1, ground := Ground.phase }, { on := 2, ground := Ground.phase }, { on := 3, ground := Ground.phase }, { on := 4, ground := Ground.phase }, { on := 5, ground := Ground.phase }, { on := 6, ground := Ground.phase }, { on := 7, ground := Ground.phase }, { on := 8, ground := Ground.phase }, { on := 9, ground := Ground.phase }, { on := 10, ground := Ground.phase }, { on := 11, ground := Ground.phase }, { on := 12, ground := Ground.phase }, { on := 13, ground := Ground.phase }, { on := 14, ground := Ground.phase }], guard := none }) (v := ?q115v) rfl (by kernel_rfl) (by kernel_rfl) (by kernel_rfl) (fun _ _ _ h => h) (Or.inl ⟨by rfl, ?q115h⟩) hHeld ?q115r
        case q115h => (intro wq hSw; clear hSw; go_simp; try with_reducible rfl)
        try simp only [Act.put, List.setIfInBounds_toArray, List.set_cons_zero, List.set_cons_succ]
        refine wpAnyH_done (by kernel_rfl) ?_ _
        go_wp2_with fail
        clear hHeld hor
        exact bodyPost_ret (v := .tuple #[.int .i64 i, .bool (o == 0)]) (by simp [results, Try.results91, go_sem]) rfl ⟨i, by rw [HKey.out, HKb.out, beq_dec'], HP.out, (HS1.out).old⟩
      · have hi1 : ¬ (i : Int) < (l.length : Int) := by omega
        have HKey : Hid (keyAt l i t = false) := Lib.hid (by unfold keyAt; rw [List.getElem?_eq_none (by omega)])
        clear hg
        go_upto_region 8 with (fail)
        refine wp_region_held_drew (S := fun w' => True) (by kernel_rfl) (trivial) (fun hHeld => ?_)
        refine wpAnyH_take (i := 0) (oi := { dst := some 35, op := Op.move (Operand.tmp 9), type := 3, pos := "sort.go:167", after := #[], guard := none }) (v := ?q201v) rfl (by kernel_rfl) (by kernel_rfl) (by kernel_rfl) (fun _ _ _ h => h) (Or.inl ⟨by rfl, ?q201h⟩) hHeld ?q201r
        case q201h => (intro wq hSw; clear hSw; go_simp; try with_reducible rfl)
        try simp only [Act.put, List.setIfInBounds_toArray, List.set_cons_zero, List.set_cons_succ]
        refine wpAnyH_take (i := 1) (oi := { dst := some 36, op := Op.move (Operand.tmp 9), type := 3, pos := "sort.go:167", after := #[], guard := none }) (v := ?q202v) rfl (by kernel_rfl) (by kernel_rfl) (by kernel_rfl) (fun _ _ _ h => h) (Or.inl ⟨by rfl, ?q202h⟩) hHeld ?q202r
        case q202h => (intro wq hSw; clear hSw; go_simp; try with_reducible rfl)
        try simp only [Act.put, List.setIfInBounds_toArray, List.set_cons_zero, List.set_cons_succ]
        refine wpAnyH_take (i := 2) (oi := { dst := some 37, op := Op.move (Operand.tmp 8), type := 3, pos := "sort.go:167", after := #[], guard := none }) (v := ?q203v) rfl (by kernel_rfl) (by kernel_rfl) (by kernel_rfl) (fun _ _ _ h => h) (Or.inl ⟨by rfl, ?q203h⟩) hHeld ?q203r
        case q203h => (intro wq hSw; clear hSw; go_simp; try with_reducible rfl)
        try simp only [Act.put, List.setIfInBounds_toArray, List.set_cons_zero, List.set_cons_succ]
        refine wpAnyH_take (i := 3) (oi := { dst := some 38, op := Op.binOp BinOp.lss 3 (Operand.tmp 36) (Operand.tmp 37) 3, type := 4, pos := "sort.go:167", after := #[{ on := 1, ground := Ground.data }, { on := 2, ground := Ground.data }], guard := none }) (v := .bool false) rfl (by kernel_rfl) (by kernel_rfl) (by kernel_rfl) (fun _ _ _ h => h) (Or.inl ⟨by rfl, ?q204h⟩) hHeld ?q204r
        case q204h => (intro wq hSw; clear hSw; go_simp; try with_reducible rfl)
        try simp only [Act.put, List.setIfInBounds_toArray, List.set_cons_zero, List.set_cons_succ]
        refine wpAnyH_take (i := 4) (oi := { dst := some 39, op := Op.move (Operand.tmp 38), type := 4, pos := "sort.go:167", after := #[{ on := 3, ground := Ground.data }], guard := none }) (v := ?q205v) rfl (by kernel_rfl) (by kernel_rfl) (by kernel_rfl) (fun _ _ _ h => h) (Or.inl ⟨by rfl, ?q205h⟩) hHeld ?q205r
        case q205h => (intro wq hSw; clear hSw; go_simp; try with_reducible rfl)
        try simp only [Act.put, List.setIfInBounds_toArray, List.set_cons_zero, List.set_cons_succ]
        refine wpAnyH_take (i := 5) (oi := { dst := some 40, op := Op.move (Operand.tmp 2), type := 95, pos := "sort.go:167", after := #[{ on := 4, ground := Ground.guard }], guard := some (4, true) }) (v := undef) rfl (by kernel_rfl) (by kernel_rfl) (by kernel_rfl) (fun _ _ _ h => h) (Or.inr ⟨by rfl, rfl⟩) hHeld ?_
        try simp only [Act.put, List.setIfInBounds_toArray, List.set_cons_zero, List.set_cons_succ]
        refine wpAnyH_take (i := 6) (oi := { dst := some 41, op := Op.move (Operand.tmp 0), type := 23, pos := "sort.go:167", after := #[{ on := 4, ground := Ground.guard }], guard := some (4, true) }) (v := undef) rfl (by kernel_rfl) (by kernel_rfl) (by kernel_rfl) (fun _ _ _ h => h) (Or.inr ⟨by rfl, rfl⟩) hHeld ?_
        try simp only [Act.put, List.setIfInBounds_toArray, List.set_cons_zero, List.set_cons_succ]
        refine wpAnyH_take (i := 7) (oi := { dst := some 42, op := Op.move (Operand.tmp 9), type := 3, pos := "sort.go:167", after := #[{ on := 4, ground := Ground.guard }], guard := some (4, true) }) (v := undef) rfl (by kernel_rfl) (by kernel_rfl) (by kernel_rfl) (fun _ _ _ h => h) (Or.inr ⟨by rfl, rfl⟩) hHeld ?_
        try simp only [Act.put, List.setIfInBounds_toArray, List.set_cons_zero, List.set_cons_succ]
        refine wpAnyH_take (i := 8) (oi := { dst := some 43, op := Op.indexAddr 23 (Operand.tmp 41) (Operand.tmp 42), type := 0, pos := "sort.go:167", after := #[{ on := 6, ground := Ground.data }, { on := 7, ground := Ground.data }, { on := 4, ground := Ground.guard }], guard := some (4, true) }) (v := undef) rfl (by kernel_rfl) (by kernel_rfl) (by kernel_rfl) (fun _ _ _ h => h) (Or.inr ⟨by rfl, rfl⟩) hHeld ?_
        try simp only [Act.put, List.setIfInBounds_toArray, List.set_cons_zero, List.set_cons_succ]
        refine wpAnyH_take (i := 9) (oi := { dst := some 44, op := Op.load 29 (Operand.tmp 43), type := 29, pos := "sort.go:167", after := #[{ on := 8, ground := Ground.data }, { on := 4, ground := Ground.guard }], guard := some (4, true) }) (v := undef) rfl (by kernel_rfl) (by kernel_rfl) (by kernel_rfl) (fun _ _ _ h => h) (Or.inr ⟨by rfl, rfl⟩) hHeld ?_
        try simp only [Act.put, List.setIfInBounds_toArray, List.set_cons_zero, List.set_cons_succ]
        refine wpAnyH_take (i := 10) (oi := { dst := some 45, op := Op.load 29 (Operand.tmp 4), type := 29, pos := "sort.go:167", after := #[{ on := 4, ground := Ground.guard }], guard := some (4, true) }) (v := undef) rfl (by kernel_rfl) (by kernel_rfl) (by kernel_rfl) (fun _ _ _ h => h) (Or.inr ⟨by rfl, rfl⟩) hHeld ?_
        try simp only [Act.put, List.setIfInBounds_toArray, List.set_cons_zero, List.set_cons_succ]
        refine wpAnyH_take (i := 11) (oi := { dst := some 46, op := Op.call { callee := Callee.value (Operand.tmp 40), args := #[Operand.tmp 44, Operand.tmp 45], argTypes := #[29, 29] }, type := 3, pos := "sort.go:167", after := #[{ on := 5, ground := Ground.data }, { on := 9, ground := Ground.data }, { on := 10, ground := Ground.data }, { on := 4, ground := Ground.chain }, { on := 4, ground := Ground.guard }], guard := some (4, true) }) (v := undef) rfl (by kernel_rfl) (by kernel_rfl) (by kernel_rfl) (fun _ _ _ h => h) (Or.inr ⟨by rfl, rfl⟩) hHeld ?_
        try simp only [Act.put, List.setIfInBounds_toArray, List.set_cons_zero, List.set_cons_succ]
        refine wpAnyH_take (i := 12) (oi := { dst := some 47, op := Op.binOp BinOp.eql 3 (Operand.tmp 46) (Operand.const (Value.int IntKind.i64 0)) 3, type := 4, pos := "sort.go:167", after := #[{ on := 11, ground := Ground.data }, { on := 4, ground := Ground.guard }, { on := 14, ground := Ground.gcOnly Departure.lateStores }], guard := some (4, true) }) (v := undef) rfl (by kernel_rfl) (by kernel_rfl) (by kernel_rfl) (fun _ _ _ h => h) (Or.inr ⟨by rfl, rfl⟩) hHeld ?_
        try simp only [Act.put, List.setIfInBounds_toArray, List.set_cons_zero, List.set_cons_succ]
        refine wpAnyH_take (i := 13) (oi := { dst := some 48, op := Op.pick (Operand.tmp 39) (Operand.tmp 47) (Operand.const (Value.bool false)), type := 4, pos := "sort.go:167", after := #[{ on := 4, ground := Ground.data }, { on := 12, ground := Ground.data }, { on := 14, ground := Ground.gcOnly Departure.lateStores }], guard := none }) (v := ?q214v) rfl (by kernel_rfl) (by kernel_rfl) (by kernel_rfl) (fun _ _ _ h => h) (Or.inl ⟨by rfl, ?q214h⟩) hHeld ?q214r
        case q214h => (intro wq hSw; clear hSw; go_simp; try with_reducible rfl)
        try simp only [Act.put, List.setIfInBounds_toArray, List.set_cons_zero, List.set_cons_succ]
        refine wpAnyH_take (i := 14) (oi := { dst := some 6, op := Op.assign (Operand.tmp 35), type := 3, pos := "sort.go:167", after := #[{ on := 0, ground := Ground.data }, { on := 11, ground := Ground.chain }, { on := 0, ground := Ground.phase }, { on := 1, ground := Ground.textOnly Departure.lateStores }, { on := 2, ground := Ground.textOnly Departure.lateStores }, { on := 3, ground := Ground.textOnly Departure.lateStores }, { on := 4, ground := Ground.textOnly Departure.lateStores }, { on := 5, ground := Ground.textOnly Departure.lateStores }, { on := 6, ground := Ground.textOnly Departure.lateStores }, { on := 7, ground := Ground.textOnly Departure.lateStores }, { on := 8, ground := Ground.textOnly Departure.lateStores }, { on := 9, ground := Ground.textOnly Departure.lateStores }, { on := 10, ground := Ground.textOnly Departure.lateStores }, { on := 11, ground := Ground.textOnly Departure.lateStoresUnsure }, { on := 12, ground := Ground.textOnly Departure.lateStores }, { on := 13, ground := Ground.textOnly Departure.lateStores }], guard := none }) (v := ?q215v) rfl (by kernel_rfl) (by kernel_rfl) (by kernel_rfl) (fun _ _ _ h => h) (Or.inl ⟨by rfl, ?q215h⟩) hHeld ?q215r
        case q215h => (intro wq hSw; clear hSw; go_simp; try with_reducible rfl)
        try simp only [Act.put, List.setIfInBounds_toArray, List.set_cons_zero, List.set_cons_succ]
        refine wpAnyH_take (i := 15) (oi := { dst := some 7, op := Op.assign (Operand.tmp 48), type := 4, pos := "sort.go:167", after := #[{ on := 13, ground := Ground.data }, { on := 14, ground := Ground.chain }, { on := 0, ground := Ground.phase }, { on := 1, ground := Ground.phase }, { on := 2, ground := Ground.phase }, { on := 3, ground := Ground.phase }, { on := 4, ground := Ground.phase }, { on := 5, ground := Ground.phase }, { on := 6, ground := Ground.phase }, { on := 7, ground := Ground.phase }, { on := 8, ground := Ground.phase }, { on := 9, ground := Ground.phase }, { on := 10, ground := Ground.phase }, { on := 11, ground := Ground.phase }, { on := 12, ground := Ground.phase }, { on := 13, ground := Ground.phase }, { on := 14, ground := Ground.phase }], guard := none }) (v := ?q216v) rfl (by kernel_rfl) (by kernel_rfl) (by kernel_rfl) (fun _ _ _ h => h) (Or.inl ⟨by rfl, ?q216h⟩) hHeld ?q216r
        case q216h => (intro wq hSw; clear hSw; go_simp; try with_reducible rfl)
        try simp only [Act.put, List.setIfInBounds_toArray, List.set_cons_zero, List.set_cons_succ]
        refine wpAnyH_done (by kernel_rfl) ?_ _
        go_wp2_with fail
        exact bodyPost_ret (v := .tuple #[.int .i64 i, .bool false]) (by simp [results, Try.results91, go_sem]) rfl ⟨i, by rw [HKey.out], HP.out, ((HY.out).drew).old⟩

end Go.Proofs.Ytooaldglgkjjgaa
/- the program's place, mode, holders, upgrade (locks) -/
namespace Go.Proofs.Ytooaldglgkjjgaa
open Go.RowKit
set_option maxRecDepth 20000
set_option linter.unusedSimpArgs false
set_option linter.unusedVariables false

theorem pos_find {t : Gr} {l : List Gr} {i : Nat} (hs : l.Pairwise GLt) (h : PosG t l i) : findK l t.tx t.page t.slot = if keyAt l i t = true then l[i]? else none := by
  by_cases hil : i < l.length
  · have hx : l[i]? = some l[i] := List.getElem?_eq_getElem hil
    have hk : keyAt l i t = keyB l[i] t.tx t.page t.slot := by unfold keyAt; rw [hx]
    cases hkb : keyB l[i] t.tx t.page t.slot with
    | true =>
      rw [hk, hkb, if_pos rfl, hx]
      have h1 := keyB_iff.1 hkb
      have := findK_mem hs (List.getElem_mem hil)
      rw [h1.1, h1.2.1, h1.2.2] at this
      exact this
    | false =>
      rw [hk, hkb, if_neg (by simp)]
      cases hf : findK l t.tx t.page t.slot with
      | none => rfl
      | some x =>
        exfalso
        obtain ⟨hm, h1, h2, h3⟩ := findK_some hf
        obtain ⟨j, hj, rfl⟩ := List.getElem_of_mem hm
        rcases Nat.lt_trichotomy j i with hji | rfl | hji
        · have := h.low j hj hji; unfold GLt at this; omega
        · have : keyB l[j] t.tx t.page t.slot = true := keyB_iff.2 ⟨h1, h2, h3⟩
          rw [hkb] at this; cases this
        · have h4 := List.pairwise_iff_getElem.1 hs i j hil hj hji
          have h5 := h.high i hil (Nat.le_refl _)
          unfold GLt at h4 h5; omega
  · have hx : l[i]? = none := List.getElem?_eq_none (by omega)
    have hk : keyAt l i t = false := by unfold keyAt; rw [hx]
    rw [hk, if_neg (by simp)]
    cases hf : findK l t.tx t.page t.slot with
    | none => rfl
    | some x =>
      exfalso
      obtain ⟨hm, h1, h2, h3⟩ := findK_some hf
      obtain ⟨j, hj, rfl⟩ := List.getElem_of_mem hm
      have := h.low j hj (by omega); unfold GLt at this; omega
theorem build_pl (tx : Int) (k : Lok) (W : World) : Sem.run Try.prog (Instr.build 29 #[(0, .int .i64 tx), (1, .agg (lkCells k).toArray)]) W = .ok (.agg (grCells ⟨tx, k.page, k.slot, 0⟩).toArray) W := by kernel_rfl
abbrev plG (tx : Int) (k : Lok) : Gr := ⟨tx, k.page, k.slot, 0⟩
def PlPost (l : List Gr) (t : Gr) (w : World) (e : Ending) (w' : World) : Prop := ∃ i : Nat, e = .returned (.tuple #[.int .i64 i, .bool (keyAt l i t)]) ∧ PosG t l i ∧ Below w.heap.size w w'
set_option maxHeartbeats 4000000 in
theorem place_any (tx : Int) (k : Lok) (l : List Gr) (v : Value) (R : List Rng) (w : World) (hs : l.Pairwise GLt) (hv : GrRd v l R) (hR : RdIn w R) (hl : l.length ≤ 200000) :
    Calls Try.prog 70 #[v, .int .i64 tx, .agg (lkCells k).toArray] w (PlPost l (plG tx k) w) := by
  have HBs : Hid (∀ W, Below w.heap.size w W → Calls Try.prog 91 #[v, .agg (grCells (plG tx k)).toArray, .func (.func 77) #[] #[]] W (PlPost l (plG tx k) W)) := fun W hb => binSearch_any _ l v R W hs hv (hR.below hb) hl
  have h1 := (Hp.start w).put 27 (lkCells k)
  have HS0 : Hid (Hp w [.ob w.heap.size 27 (lkCells k)] (w.alloc (.cells (lkCells k).toArray 27))) := h1
  clear h1 hs hv hR hl
  obtain ⟨fs, hu⟩ := under_lk
  have HUK := Lib.hid hu
  clear hu
  go_enter Try.func70, Try.ntmps70
  go_upto_region 1 with (fail)
  generalize (w.alloc (.cells (lkCells k).toArray 27)) = w1 at *
  go_wp2_with (first | ((with_reducible refine wpList_load_ob 27 (.tmp 5) w.heap.size (lkCells k) 27 HUK.out ?_ ?_ ?_ ?_ ?_); (exact rfl); (exact HS0.out.get 0 rfl); (exact rfl); (exact info_lk); simp only [Act.put, List.setIfInBounds_toArray, List.set_cons_zero, List.set_cons_succ]) | ((with_reducible refine wpList_build_v (d := some 11) 29 (.agg (grCells (plG tx k)).toArray) ?_ ?_); (intro W; simp only [List.map_toArray, List.map_cons, List.map_nil]; exact build_pl tx k W); simp only [Act.put, List.setIfInBounds_toArray, List.set_cons_zero, List.set_cons_succ]))
  refine (HBs.out _ HS0.out.old).mono ?_
  rintro e w2 ⟨i, rfl, hp, hb⟩
  have HP := Lib.hid hp
  have HS1 := Lib.hid (HS0.out.calls hb)
  clear hp hb HS0 HBs
  go_wp2_with fail
  exact bodyPost_ret (v := .tuple #[.int .i64 i, .bool (keyAt l i (plG tx k))]) (by simp [results, Try.results70, go_sem]) rfl ⟨i, rfl, HP.out, HS1.out.old⟩
set_option maxHeartbeats 4000000 in
theorem pmode_any (tx : Int) (k : Lok) (l : List Gr) (v : Value) (R : List Rng) (w : World) (hs : l.Pairwise GLt) (hv : GrRd v l R) (hR : RdIn w R) (hl : l.length ≤ 200000) :
    Calls Try.prog 44 #[v, .int .i64 tx, .agg (lkCells k).toArray] w fun e w' => e = .returned (.int .i64 (modeR l tx k.page k.slot)) ∧ Below w.heap.size w w' := by
  have HPl : Hid (∀ W, Below w.heap.size w W → Calls Try.prog 70 #[v, .int .i64 tx, .agg (lkCells k).toArray] W (PlPost l (plG tx k) W)) := fun W hb => place_any tx k l v R W hs hv (hR.below hb) hl
  obtain ⟨a, cap, rfl, hnc, hcm, hg⟩ := SlRd.open hv hR
  have h1 := (Hp.start w).put 27 (lkCells k)
  have HS0 : Hid (Hp w [.ob w.heap.size 27 (lkCells k)] (w.alloc (.cells (lkCells k).toArray 27))) := h1
  have HSo := Lib.hid hs
  have HL := Lib.hid hl
  clear h1 hs hv hR hl hnc hcm
  obtain ⟨fs, hu⟩ := under_lk
  have HUK := Lib.hid hu
  clear hu
  have HM : Hid (modeR l tx k.page k.slot = (findK l tx k.page k.slot).elim 0 Gr.mode) := rfl
  go_enter Try.func44, Try.ntmps44
  go_upto_region 1 with (fail)
  generalize (w.alloc (.cells (lkCells k).toArray 27)) = w1 at *
  go_wp2_with (first | ((with_reducible refine wpList_load_ob 27 (.tmp 5) w.heap.size (lkCells k) 27 HUK.out ?_ ?_ ?_ ?_ ?_); (exact rfl); (exact HS0.out.get 0 rfl); (exact rfl); (exact info_lk); simp only [Act.put, List.setIfInBounds_toArray, List.set_cons_zero, List.set_cons_succ]))
  refine (HPl.out _ HS0.out.old).mono ?_
  rintro e w2 ⟨i, rfl, hp, hb⟩
  have hf := pos_find HSo.out hp
  have HS1 := Lib.hid (HS0.out.calls hb)
  simp only at hf
  clear hb HS0 HPl
  cases hq : keyAt l i (plG tx k)
  · rw [hq] at hf
    have HV : Hid (modeR l tx k.page k.slot = 0) := Lib.hid (by rw [HM.out, hf]; rfl)
    clear hf hp hg
    go_wp2_with fail
    go_ret
    exact ⟨by rw [HV.out]; rfl, HS1.out.old⟩
  · rw [hq, if_pos rfl] at hf
    have hil : i < l.length := by
      rcases Nat.lt_or_ge i l.length with h | h
      · exact h
      · unfold keyAt at hq; rw [List.getElem?_eq_none h] at hq; cases hq
    obtain ⟨x, hx⟩ : ∃ x, l[i]? = some x := ⟨_, List.getElem?_eq_getElem hil⟩
    have HV : Hid (modeR l tx k.page k.slot = x.mode) := Lib.hid (by rw [HM.out, hf, hx]; rfl)
    obtain ⟨g, off, rfl, hr⟩ := hg.out (by omega)
    have c3 : w2.cell? ⟨g, off + i * 4 + 3, none⟩ = some (.int .i64 x.mode) := by have := hr w2 HS1.out.old (i * 4 + 3) _ (grRow_at l i x hx 3 _ rfl); exact this
    have hi1 : (i : Int) < (l.length : Int) := by omega
    have hi0 : (0 : Int) ≤ (i : Int) := by omega
    clear hf hp hg hr hx hq HM
    go_wp2_with fail
    go_ret
    exact ⟨by rw [HV.out]; rfl, HS1.out.old⟩
set_option maxHeartbeats 4000000 in
theorem upgrade_any (g : Gr) (l : List Gr) (v : Value) (R : List Rng) (w : World) (hs : l.Pairwise GLt) (hv : GrRd v l R) (hR : RdIn w R) (hl : l.length ≤ 200000) :
    Calls Try.prog 74 #[v, .agg (grCells g).toArray] w fun e w' => e = .returned (.bool (decide (0 < modeG l g))) ∧ Below w.heap.size w w' := by
  have HMo : Hid (∀ W, Below w.heap.size w W → Calls Try.prog 44 #[v, .int .i64 g.tx, .agg #[.int .i64 g.page, .int .i64 g.slot]] W fun e w' => e = .returned (.int .i64 (modeG l g)) ∧ Below W.heap.size W w') := fun W hb => pmode_any g.tx g.lock l v R W hs hv (hR.below hb) hl
  have h1 := (Hp.start w).put 29 (grCells g)
  have HS0 : Hid (Hp w [.ob w.heap.size 29 (grCells g)] (w.alloc (.cells (grCells g).toArray 29))) := h1
  clear h1 hs hv hR hl
  go_enter Try.func74, Try.ntmps74
  go_upto_region 1 with (fail)
  generalize (w.alloc (.cells (grCells g).toArray 29)) = w1 at *
  have x0 : w1.cell? ⟨w.heap.size, 0, none⟩ = some (.int .i64 g.tx) := HS0.out.at 0 rfl 0 rfl
  have x1 : w1.cell? ⟨w.heap.size, 1, none⟩ = some (.int .i64 g.page) := HS0.out.at 0 rfl 1 rfl
  have x2 : w1.cell? ⟨w.heap.size, 2, none⟩ = some (.int .i64 g.slot) := HS0.out.at 0 rfl 2 rfl
  go_wp2_with fail
  refine (HMo.out _ HS0.out.old).mono ?_
  rintro e w2 ⟨rfl, hb⟩
  have HS1 := Lib.hid (HS0.out.calls hb)
  clear hb HS0 HMo x0 x1 x2
  go_wp2_with fail
  go_ret
  exact ⟨rfl, HS1.out.old⟩
theorem pos_le {t u : Gr} {l : List Gr} {p q : Nat} (h : PosG t l p) (k : PosG u l q) (htu : GLt t u) : p ≤ q := by
  rcases Nat.lt_or_ge q p with h1 | h1
  · exfalso
    have hq : q < l.length := Nat.lt_of_lt_of_le h1 h.le
    exact k.high q hq (Nat.le_refl _) ((h.low q hq h1).trans htu)
  · exact h1
theorem mem_part {t u x : Gr} {l : List Gr} {p q : Nat} (h : PosG t l p) (k : PosG u l q) (hx : x ∈ l) (h1 : GLt t x) (h2 : GLt x u) : x ∈ (l.take q).drop p := by
  obtain ⟨j, hj, rfl⟩ := List.getElem_of_mem hx
  have hpj : p ≤ j := by
    rcases Nat.lt_or_ge j p with h3 | h3
    · exact absurd (h.low j hj h3) (fun h4 => h4.asymm h1)
    · exact h3
  have hjq : j < q := by
    rcases Nat.lt_or_ge j q with h3 | h3
    · exact h3
    · exact absurd h2 (k.high j hj h3)
  rw [List.mem_iff_getElem?]
  refine ⟨j - p, ?_⟩
  rw [List.getElem?_drop, List.getElem?_take, if_pos (by omega), show p + (j - p) = j from by omega, List.getElem?_eq_getElem hj]
theorem part_any {l : List Gr} {k : Lok} {p q : Nat} (hl : HeldOk l) (h : PosG (plG 0 k) l p) (h2 : PosG (plG 1073741825 k) l q) (g : Gr) (hg : g.page = k.page ∧ g.slot = k.slot) : ((l.take q).drop p).any (fun x => confB g x) = l.any (fun x => confB g x) := by
  rw [Bool.eq_iff_iff, List.any_eq_true, List.any_eq_true]
  constructor
  · rintro ⟨x, hx, hc⟩
    exact ⟨x, List.mem_of_mem_take (List.mem_of_mem_drop hx), hc⟩
  · rintro ⟨x, hx, hc⟩
    refine ⟨x, ?_, hc⟩
    have hcf := confB_iff.1 hc
    have hok := hl.ok x hx
    have e1 := hcf.2.1
    have e2 := hcf.2.2.1
    have := hok.1
    refine mem_part h h2 hx ?_ ?_
    · unfold GLt; simp only; omega
    · unfold GLt; simp only; omega
def HoPost (l : List Gr) (k : Lok) (R : List Rng) (w : World) (e : Ending) (w' : World) : Prop :=
  ∃ v m R', e = .returned v ∧ GrRd v m R' ∧ RdIn w' R' ∧ (∀ r ∈ R', r.1 ∈ R.map (·.1)) ∧ m.length ≤ l.length ∧ (∀ x ∈ m, x ∈ l) ∧ (∀ g : Gr, g.page = k.page ∧ g.slot = k.slot → m.any (fun x => confB g x) = l.any (fun x => confB g x)) ∧ Below w.heap.size w w'
set_option maxHeartbeats 4000000 in
theorem holders_any (k : Lok) (l : List Gr) (v : Value) (R : List Rng) (w : World) (hs : HeldOk l) (hv : GrRd v l R) (hR : RdIn w R) (hl : l.length ≤ 200000) :
    Calls Try.prog 65 #[v, .agg (lkCells k).toArray] w (HoPost l k R w) := by
  have HPl : Hid (∀ tx W, Below w.heap.size w W → Calls Try.prog 70 #[v, .int .i64 tx, .agg (lkCells k).toArray] W (PlPost l (plG tx k) W)) := fun tx W hb => place_any tx k l v R W hs.up hv (hR.below hb) hl
  obtain ⟨a, cap, rfl, hnc, hcm⟩ := GrRd.shape hv
  have h1 := (Hp.start w).put 27 (lkCells k)
  have HS0 : Hid (Hp w [.ob w.heap.size 27 (lkCells k)] (w.alloc (.cells (lkCells k).toArray 27))) := h1
  have HSo := Lib.hid hs
  have HV := Lib.hid hv
  have HR := Lib.hid hR
  have HL := Lib.hid hl
  clear h1 hs hv hR hl
  obtain ⟨fs, hu⟩ := under_lk
  have HUK := Lib.hid hu
  clear hu
  go_enter Try.func65, Try.ntmps65
  go_upto_region 1 with (fail)
  generalize (w.alloc (.cells (lkCells k).toArray 27)) = w1 at *
  go_wp2_with (first | ((with_reducible refine wpList_load_ob 27 (.tmp 3) w.heap.size (lkCells k) 27 HUK.out ?_ ?_ ?_ ?_ ?_); (exact rfl); (exact HS0.out.get 0 rfl); (exact rfl); (exact info_lk); simp only [Act.put, List.setIfInBounds_toArray, List.set_cons_zero, List.set_cons_succ]))
  refine (HPl.out 0 _ HS0.out.old).mono ?_
  rintro e w2 ⟨p, rfl, hp, hb⟩
  have HP := Lib.hid hp
  have HS1 := Lib.hid (HS0.out.calls hb)
  clear hb HS0 hp
  go_wp2_with (first | ((with_reducible refine wpList_load_ob 27 (.tmp 3) w.heap.size (lkCells k) 27 HUK.out ?_ ?_ ?_ ?_ ?_); (exact rfl); (exact HS1.out.get 0 rfl); (exact rfl); (exact info_lk); simp only [Act.put, List.setIfInBounds_toArray, List.set_cons_zero, List.set_cons_succ]))
  refine (HPl.out 1073741825 _ HS1.out.old).mono ?_
  rintro e w3 ⟨q, rfl, hq, hb⟩
  have HQ := Lib.hid hq
  have HS2 := Lib.hid (HS1.out.calls hb)
  have hpq : p ≤ q := pos_le HP.out hq (.inr ⟨rfl, .inr ⟨rfl, by show (0 : Int) < 1073741825; decide⟩⟩)
  have hql : q ≤ l.length := hq.le
  obtain ⟨R1, h2, h3, h4⟩ := gr_take HV.out q hql
  have hlen : (l.take q).length = q := by rw [List.length_take]; omega
  rw [show (Value.slice a q cap) = .slice a (l.take q).length cap from by rw [hlen]] at h2
  obtain ⟨R2, h5, h6, h7⟩ := gr_drop h2 p (by omega)
  rw [hlen] at h5
  have HE : Hid (HoPost l k R w (.returned (.slice (if cap = p then a else Option.map (fun x => Addr.add x (p * 4)) a) (q - p) (cap - p))) w3) := by
    refine ⟨_, (l.take q).drop p, R2, rfl, h5, h6 _ (h3 _ (HR.out.below HS2.out.old)), fun r hr => ?_, by rw [List.length_drop, hlen]; omega, fun x hx => List.mem_of_mem_take (List.mem_of_mem_drop hx), fun g hg => part_any HSo.out HP.out HQ.out g hg, HS2.out.old⟩
    obtain ⟨r2, hr2, e2⟩ := List.mem_map.1 (h7 r hr)
    rw [← e2]
    exact h4 r2 hr2
  have hp0 : (0 : Int) ≤ (p : Int) := by omega
  have hpq' : (p : Int) ≤ (q : Int) := by omega
  have hql' : (q : Int) ≤ (l.length : Int) := by omega
  have hlc : (l.length : Int) ≤ (cap : Int) := by omega
  have hqc : (q : Int) ≤ (cap : Int) := by omega
  have hpc : (p : Int) ≤ (cap : Int) := by omega
  clear hb HS1 hq HPl h2 h3 h4 h5 h6 h7 hlen hpq hql
  by_cases hcp : cap = p
  · have HE2 : Hid (HoPost l k R w (.returned (.slice a (q - p) 0)) w3) := Lib.hid (by have h := HE.out; rw [if_pos hcp, hcp, Nat.sub_self] at h; exact h)
    clear HE
    subst hcp
    go_wp2_with fail
    go_ret
    exact HE2.out
  · have HE2 : Hid (HoPost l k R w (.returned (.slice (Option.map (fun x => Addr.add x (p * 4)) a) (q - p) (cap - p))) w3) := Lib.hid (by have h := HE.out; rw [if_neg hcp] at h; exact h)
    clear HE
    go_wp2_with fail
    go_ret
    exact HE2.out
end Go.Proofs.Ytooaldglgkjjgaa
