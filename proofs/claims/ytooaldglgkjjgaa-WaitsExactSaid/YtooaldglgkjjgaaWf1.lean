/- texts of a claim, one after the other: numbers as bytes, texts, and small facts on conversions: no walk, the steps of a region that draws, their side conditions paid by themselves, lock tables as values, what the functions of chapter 8 answer, and what follows of it, what the functions of chapter 8 leave: valid tables, in which everyone who waits is kept waiting; again and again is once, the choices of the drawing package: what Next gives lies in its range, and nothing but the place in the codes is changed, small things about memory that all texts use, whether two cells are equal, as the program compares them, the choices of the drawing package: New and Spoilt, what all laws begin with: the choices, objects in memory, and what a walk keeps of them, what a walk keeps of memory: objects, slices of its own, choices; what was there is as it was, a slice that reads as these cells; what reads is appended to a slice of the walk's own, grants, locks and lock tables as values of the program, the small functions on grants: the order, conflicts, validity, what is held in which mode (the reference, chapter 8), when a table is valid, grant by grant, the reference's Valid of a lock table -/
import Derived.Test.YtooaldglgkjjgaaRows
import Derived.WalkKit
import Derived.WalkSpells
import Derived.WalkLawsBesides
import Derived.Lib.Hide
import Derived.Below
import Derived.LoopN
import Derived.ProofKit
import Derived.OpenShut
import Derived.Deep.RegionHeld
import Derived.KernelRfl
import Derived.RegionTactic
import Derived.ChangeAlike
import Derived.Deep.QuietTactic
import Derived.BigQuiet
import Derived.Deep.MidRow
import Derived.Deep.OwnRows
import Derived.Laws.CopyOwn
import Derived.DeepKeys
import Derived.BigRegion
import Derived.Deep.RegionWith
import Derived.Deep.RegionHeld3
import Derived.Deep.WholeRow
import Derived.Laws.ResultCell
import Derived.Maps.AppendAt
import Derived.Deep.DeepCutAuto
import Derived.Great.BuildSlice
/- numbers as bytes, texts, and small facts on conversions: no walk -/
namespace Go.Proofs.Ytooaldglgkjjgaa
open Go.ChangeShapes Go.WideShapes Go.ChangeAt Go.RowKit

theorem w64 (n : Int) : IntKind.i64.wrap n = wrap64 n:=by rw [IntKind.wrap_i64];unfold wrap64;rfl
theorem byte_of_wf {n : Int} (h : (Lit.int .u8 n).wf = true) : ∃ b : UInt8, n = (b.toNat : Int):=by
  have:=bounds_u8 h
  refine ⟨UInt8.ofNat n.toNat, ?_⟩
  rw [UInt8.toNat_ofNat']
  omega

/-- a slice of integers that came in: nil, or a row of cells with the numbers zs -/
def IsRow (k : IntKind) (w : World) (a : Option Addr) (len cap : Nat) (zs : List Int) : Prop :=
  (a = none ∧ len = 0 ∧ cap = 0 ∧ zs = []) ∨
  ∃ x, a = some x ∧ len ≤ cap ∧ cap ≤ maxLen ∧ zs.length = cap ∧ (∀ i, i < zs.length → w.cell? (x.add i) = some (.int k (zs.getD i 0))) ∧ ∀ n ∈ zs, (Lit.int k n).wf = true
end Go.Proofs.Ytooaldglgkjjgaa
/- the steps of a region that draws, their side conditions paid by themselves -/
namespace Go.Proofs.Ytooaldglgkjjgaa
theorem tk {P : Program} {ops : Array Oper} {Q : Exit → Act → World → Prop} {md : Region.Mode} {S : World → Prop} {fuel : Nat} {listed : Array Bool} {a : Act} {w : World} (i : Nat) (oi : Oper) (d : Option Tmp) {v : Value}
    (hy : YieldsIf P ops S oi v a) (hS : S w) (h : wpAnyH P md ops Q S fuel (listed.setIfInBounds i true) (a.put d v) w) (hi : ops[i]? = some oi:=by rfl) (hs : Region.noSelect ops = true:=by kernel_rfl) (hf : Region.free md ops listed i = true:=by kernel_rfl)
    (hr : (Region.ready md ops listed).contains i = true:=by kernel_rfl) (hQ : ∀ c a w, Q (.panic c) (a.put oi.dst v) w → Q (.panic c) a w:=by exact fun _ _ _ h=>h) (hd : oi.dst = d:=by rfl) : wpAnyH P md ops Q S (fuel + 1) listed a w:=by
  subst hd
  exact wpAnyH_take hi hs hf hr hQ hy hS h
theorem tn {P : Program} {ops : Array Oper} {Q : Exit → Act → World → Prop} {md : Region.Mode} {S : World → Prop} {fuel : Nat} {listed : Array Bool} {a : Act} {w : World} (i : Nat) (o : Oper)
    (h : ∀ K' : Act → World → Prop, Shut (∀ a w, S w → (S w → wpAnyH P md ops Q S fuel (listed.setIfInBounds i true) a w) → K' a w) → if Region.wanted o (yielded ops a.tmps) = true then Oper.wp P o a w K' Q else K' (a.put o.dst undef) w)
    (ho : ops[i]? = some o:=by rfl) (hr : Region.ready md ops listed = [i]:=by kernel_rfl) : wpAnyH P md ops Q S (fuel + 1) listed a w :=
  wpAnyH_ready hr (by simp) (AllReadyH.cons ho h AllReadyH.nil)
end Go.Proofs.Ytooaldglgkjjgaa
/- lock tables as values, what the functions of chapter 8 answer, and what follows of it -/
namespace Go.Proofs.Ytooaldglgkjjgaa
set_option maxRecDepth 20000

structure Gr where
 tx : Int
 page : Int
 slot : Int
 mode : Int
structure Tb where
 held : List Gr
 wait : List Gr
def grNil : Gr:=⟨0, 0, 0, 0⟩
def tbNil : Tb:=⟨[], []⟩
theorem Gr.ext' {a b : Gr} (h1 : a.tx = b.tx) (h2 : a.page = b.page) (h3 : a.slot = b.slot) (h4 : a.mode = b.mode) : a = b:=by
 cases a;cases b;simp_all
def grEqB (a b : Gr) : Bool:=decide (a.tx = b.tx) && (decide (a.page = b.page) && (decide (a.slot = b.slot) && decide (a.mode = b.mode)))
theorem grEqB_iff {a b : Gr} : grEqB a b = true ↔ a = b:=by
 unfold grEqB
 simp only [Bool.and_eq_true, decide_eq_true_eq]
 exact ⟨fun h=>Gr.ext' h.1 h.2.1 h.2.2.1 h.2.2.2, fun h=>by subst h;exact ⟨rfl, rfl, rfl, rfl⟩⟩
def keyB (x : Gr) (tx page slot : Int) : Bool:=decide (x.tx = tx) && (decide (x.page = page) && decide (x.slot = slot))
theorem keyB_iff {x : Gr} {tx p s : Int} : keyB x tx p s = true ↔ x.tx = tx ∧ x.page = p ∧ x.slot = s:=by
 unfold keyB;simp only [Bool.and_eq_true, decide_eq_true_eq]
def ltB (a b : Gr) : Bool:=decide (a.page < b.page) || (decide (a.page = b.page) && (decide (a.slot < b.slot) || (decide (a.slot = b.slot) && decide (a.tx < b.tx))))
def GLt (a b : Gr) : Prop:=a.page < b.page ∨ (a.page = b.page ∧ (a.slot < b.slot ∨ (a.slot = b.slot ∧ a.tx < b.tx)))
theorem ltB_iff {a b : Gr} : ltB a b = true ↔ GLt a b:=by
 unfold ltB GLt;simp only [Bool.and_eq_true, Bool.or_eq_true, decide_eq_true_eq]
def confB (a b : Gr) : Bool:=!decide (a.tx = b.tx) && (decide (a.page = b.page) && (decide (a.slot = b.slot) && (decide (a.mode = 2) || decide (b.mode = 2))))
def Conf (a b : Gr) : Prop:=a.tx ≠ b.tx ∧ a.page = b.page ∧ a.slot = b.slot ∧ (a.mode = 2 ∨ b.mode = 2)
theorem confB_iff {a b : Gr} : confB a b = true ↔ Conf a b:=by
 unfold confB Conf;simp only [Bool.and_eq_true, Bool.or_eq_true, Bool.not_eq_true', decide_eq_true_eq, decide_eq_false_iff_not, ne_eq]
theorem Conf.symm {a b : Gr} (h : Conf a b) : Conf b a:=⟨fun e=>h.1 e.symm, h.2.1.symm, h.2.2.1.symm, h.2.2.2.symm⟩
def grOkB (g : Gr) : Bool:=decide (1 ≤ g.tx) && (decide (g.tx ≤ 1073741824) && (decide (0 ≤ g.page) && (decide (g.page < 64) && (decide (0 ≤ g.slot) && (decide (g.slot < 16) && (decide (g.mode = 1) || decide (g.mode = 2)))))))
def GrOk (g : Gr) : Prop:=(1 ≤ g.tx ∧ g.tx ≤ 1073741824) ∧ (0 ≤ g.page ∧ g.page < 64) ∧ (0 ≤ g.slot ∧ g.slot < 16) ∧ (g.mode = 1 ∨ g.mode = 2)
theorem grOkB_iff {g : Gr} : grOkB g = true ↔ GrOk g:=by
 unfold grOkB GrOk;simp only [Bool.and_eq_true, Bool.or_eq_true, decide_eq_true_eq]
 constructor
 ·intro h;exact ⟨⟨h.1, h.2.1⟩, ⟨h.2.2.1, h.2.2.2.1⟩, ⟨h.2.2.2.2.1, h.2.2.2.2.2.1⟩, h.2.2.2.2.2.2⟩
 ·intro h;exact ⟨h.1.1, h.1.2, h.2.1.1, h.2.1.2, h.2.2.1.1, h.2.2.1.2, h.2.2.2⟩
theorem GLt.irrefl {a : Gr} (h : GLt a a) : False:=by unfold GLt at h;omega
theorem GLt.trans {a b c : Gr} (h : GLt a b) (k : GLt b c) : GLt a c:=by unfold GLt at *;omega
theorem GLt.asymm {a b : Gr} (h : GLt a b) (k : GLt b a) : False:=(h.trans k).irrefl
theorem glt_tri (a b : Gr) : GLt a b ∨ GLt b a ∨ (a.tx = b.tx ∧ a.page = b.page ∧ a.slot = b.slot):=by unfold GLt;omega

def findK (l : List Gr) (tx p s : Int) : Option Gr:=l.find? (fun x=>keyB x tx p s)
def modeR (l : List Gr) (tx p s : Int) : Int:=(findK l tx p s).elim 0 Gr.mode
abbrev modeG (l : List Gr) (g : Gr) : Int:=modeR l g.tx g.page g.slot
def wfind (l : List Gr) (tx : Int) : Option Gr:=l.find? (fun x=>decide (x.tx = tx))
structure HeldOk (h : List Gr) : Prop where
 ok : ∀ g ∈ h, GrOk g
 up : h.Pairwise GLt
 free : h.Pairwise (fun a b=>¬ Conf a b)
structure WaitOk (h l : List Gr) : Prop where
 ok : ∀ g ∈ l, GrOk g ∧ modeG h g < g.mode
 one : l.Pairwise (fun a b=>a.tx ≠ b.tx)
structure TbIn (t : Tb) : Prop where
 held : HeldOk t.held
 wait : WaitOk t.held t.wait
structure TbOk (t : Tb) : Prop where
 few : t.held.length + t.wait.length ≤ 1024
 tin : TbIn t
noncomputable def tbOkB (t : Tb) : Bool:=@decide (TbOk t) (Classical.propDecidable _)
theorem tbOkB_iff {t : Tb} : tbOkB t = true ↔ TbOk t:=@decide_eq_true_iff _ (Classical.propDecidable _)
theorem tbOkB_false {t : Tb} : tbOkB t = false ↔ ¬ TbOk t:=by
 rw [← tbOkB_iff];cases tbOkB t <;> simp
def holdR (l : List Gr) (g : Gr) : List Gr:=l.filter (fun x=>ltB x g) ++ g :: l.filter (fun x=>ltB g x)
def ableB (h k : List Gr) (g : Gr) : Bool:=h.all (fun x=>!confB x g) && k.all (fun x=>!confB x g)
def Able (h k : List Gr) (g : Gr) : Prop:=(∀ x ∈ h, ¬ Conf x g) ∧ ∀ x ∈ k, ¬ Conf x g
theorem ableB_iff {h k : List Gr} {g : Gr} : ableB h k g = true ↔ Able h k g:=by
 unfold ableB Able
 simp only [Bool.and_eq_true, List.all_eq_true, Bool.not_eq_true', ← confB_iff, Bool.not_eq_true]
theorem ableB_false {h k : List Gr} {g : Gr} : ableB h k g = false ↔ ¬ Able h k g:=by
 rw [← ableB_iff];cases ableB h k g <;> simp
def stepS (s : Tb) (g : Gr) : Tb:=if ableB s.held s.wait g = true then ⟨holdR s.held g, s.wait⟩ else ⟨s.held, s.wait ++ [g]⟩
theorem stepS_pos {s : Tb} {g : Gr} (h : Able s.held s.wait g) : stepS s g = ⟨holdR s.held g, s.wait⟩:=if_pos (ableB_iff.2 h)
theorem stepS_neg {s : Tb} {g : Gr} (h : ¬ Able s.held s.wait g) : stepS s g = ⟨s.held, s.wait ++ [g]⟩:=if_neg (by rw [ableB_iff];exact h)
def settleR (t : Tb) : Tb:=t.wait.foldl stepS ⟨t.held, []⟩
def Stuck (h l : List Gr) : Prop:=∀ a g b, l = a ++ g :: b → ¬ Able h a g

theorem findK_cons (x : Gr) (l : List Gr) (tx p s : Int) : findK (x :: l) tx p s = if keyB x tx p s = true then some x else findK l tx p s:=by
 unfold findK;rw [List.find?_cons];cases keyB x tx p s <;> rfl
theorem findK_some {l : List Gr} {tx p s : Int} {x : Gr} (h : findK l tx p s = some x) : x ∈ l ∧ x.tx = tx ∧ x.page = p ∧ x.slot = s :=
 ⟨List.mem_of_find?_eq_some h, keyB_iff.1 (List.find?_some (p:=fun x=>keyB x tx p s) h)⟩
theorem findK_mem {l : List Gr} (hl : l.Pairwise GLt) {x : Gr} (hx : x ∈ l) : findK l x.tx x.page x.slot = some x:=by
 induction l with
 | nil=>cases hx
 | cons y l ih =>
  rw [findK_cons]
  rw [List.pairwise_cons] at hl
  rcases List.mem_cons.1 hx with rfl | hx'
  ·rw [if_pos (keyB_iff.2 ⟨rfl, rfl, rfl⟩)]
  ·have h1:=hl.1 x hx'
   rw [if_neg, ih hl.2 hx']
   intro h
   have:=keyB_iff.1 h
   unfold GLt at h1;omega
theorem modeG_mem {l : List Gr} (hl : l.Pairwise GLt) {x : Gr} (hx : x ∈ l) : modeG l x = x.mode:=by
 unfold modeG modeR;rw [findK_mem hl hx];rfl
theorem modeR_ge {l : List Gr} (hl : ∀ g ∈ l, GrOk g) (tx p s : Int) : modeR l tx p s = 0 ∨ modeR l tx p s = 1 ∨ modeR l tx p s = 2:=by
 unfold modeR
 cases h : findK l tx p s with
 | none=>exact .inl rfl
 | some x=>exact .inr (hl x (findK_some h).1).2.2.2
theorem mem_hold {l : List Gr} {g x : Gr} (h : x ∈ holdR l g) : x = g ∨ x ∈ l:=by
 unfold holdR at h
 simp only [List.mem_append, List.mem_cons, List.mem_filter] at h
 rcases h with h | h | h
 ·exact .inr h.1
 ·exact .inl h
 ·exact .inr h.1
theorem mem_hold_self (l : List Gr) (g : Gr) : g ∈ holdR l g:=by unfold holdR;simp
theorem mem_hold_of {l : List Gr} {g x : Gr} (h : x ∈ l) (hk : ¬ (x.tx = g.tx ∧ x.page = g.page ∧ x.slot = g.slot)) : x ∈ holdR l g:=by
 unfold holdR
 simp only [List.mem_append, List.mem_cons, List.mem_filter, ltB_iff]
 rcases glt_tri x g with h1 | h1 | h1
 ·exact .inl ⟨h, h1⟩
 ·exact .inr (.inr ⟨h, h1⟩)
 ·exact absurd h1 hk
theorem hold_ok {l : List Gr} {g : Gr} (h : HeldOk l) (hg : GrOk g) (hc : ∀ x ∈ l, ¬ Conf x g) : HeldOk (holdR l g):=by
 refine ⟨fun x hx=>(mem_hold hx).elim (fun e=>e ▸ hg) (h.ok x), ?_, ?_⟩
 ·unfold holdR
  rw [List.pairwise_append, List.pairwise_cons]
  refine ⟨h.up.filter _, ⟨fun x hx=>ltB_iff.1 (List.mem_filter.1 hx).2, h.up.filter _⟩, fun x hx y hy=>?_⟩
  have h1:=ltB_iff.1 (List.mem_filter.1 hx).2
  rcases List.mem_cons.1 hy with rfl | hy
  ·exact h1
  ·exact h1.trans (ltB_iff.1 (List.mem_filter.1 hy).2)
 ·unfold holdR
  have hf:=h.free
  rw [List.pairwise_append, List.pairwise_cons]
  refine ⟨hf.filter _, ⟨fun x hx hcf=>hc x (List.mem_filter.1 hx).1 hcf.symm, hf.filter _⟩, fun x hx y hy hcf=>?_⟩
  rcases List.mem_cons.1 hy with rfl | hy
  ·exact hc x (List.mem_filter.1 hx).1 hcf
  ·have h1:=ltB_iff.1 (List.mem_filter.1 hx).2
   have h2:=ltB_iff.1 (List.mem_filter.1 hy).2
   have h3:=(List.mem_filter.1 hx).1
   have h4:=(List.mem_filter.1 hy).1
   -- both lie in l, apart
   have key : ∀ (m : List Gr), m.Pairwise (fun a b=>¬ Conf a b) → x ∈ m → y ∈ m → x ≠ y → ¬ Conf x y:=by
    intro m hm
    induction m with
    | nil=>intro h;cases h
    | cons z m ih =>
     rw [List.pairwise_cons] at hm
     intro hx hy hne hcf
     rcases List.mem_cons.1 hx with rfl | hx
     ·rcases List.mem_cons.1 hy with rfl | hy
      ·exact hne rfl
      ·exact hm.1 y hy hcf
     ·rcases List.mem_cons.1 hy with rfl | hy
      ·exact hm.1 x (by assumption) hcf.symm
      ·exact ih hm.2 (by assumption) hy hne hcf
   exact key l hf h3 h4 (fun e=>by subst e;exact h1.asymm h2) hcf
theorem find_filter2 (p q : Gr → Bool) (l : List Gr) : (l.filter p).find? q = l.find? (fun a=>p a && q a):=by
 rw [List.find?_filter]
 congr 1;funext a
 cases p a <;> cases q a <;> rfl
theorem findK_hold {l : List Gr} {g : Gr} (tx p s : Int) : findK (holdR l g) tx p s = if g.tx = tx ∧ g.page = p ∧ g.slot = s then some g else findK l tx p s:=by
 unfold findK holdR
 rw [List.find?_append, List.find?_cons, find_filter2, find_filter2]
 by_cases hk : g.tx = tx ∧ g.page = p ∧ g.slot = s
 ·rw [if_pos hk, keyB_iff.2 hk]
  have : List.find? (fun a=>ltB a g && keyB a tx p s) l = none:=by
   rw [List.find?_eq_none]
   intro x _ hx
   simp only [Bool.and_eq_true, ltB_iff, keyB_iff] at hx
   unfold GLt at hx;omega
  rw [this];rfl
 ·rw [if_neg hk]
  have hkb : keyB g tx p s = false:=by
   cases h : keyB g tx p s with
   | false=>rfl
   | true=>exact absurd (keyB_iff.1 h) hk
  rw [hkb]
  rcases glt_tri ⟨tx, p, s, 0⟩ g with h1 | h1 | h1
  ·have e1 : List.find? (fun a=>ltB a g && keyB a tx p s) l = List.find? (fun a=>keyB a tx p s) l:=by
    congr 1;funext a
    cases h : keyB a tx p s with
    | false=>rw [Bool.and_false]
    | true =>
     rw [Bool.and_true, ltB_iff]
     have:=keyB_iff.1 h
     unfold GLt at h1 ⊢;simp only at h1;omega
   have e2 : List.find? (fun a=>ltB g a && keyB a tx p s) l = none:=by
    rw [List.find?_eq_none]
    intro x _ hx
    simp only [Bool.and_eq_true, ltB_iff, keyB_iff] at hx
    unfold GLt at h1 hx;simp only at h1;omega
   rw [e1];simp only [e2];cases List.find? (fun a=>keyB a tx p s) l <;> rfl
  ·have e1 : List.find? (fun a=>ltB g a && keyB a tx p s) l = List.find? (fun a=>keyB a tx p s) l:=by
    congr 1;funext a
    cases h : keyB a tx p s with
    | false=>rw [Bool.and_false]
    | true =>
     rw [Bool.and_true, ltB_iff]
     have:=keyB_iff.1 h
     unfold GLt at h1 ⊢;simp only at h1;omega
   have e2 : List.find? (fun a=>ltB a g && keyB a tx p s) l = none:=by
    rw [List.find?_eq_none]
    intro x _ hx
    simp only [Bool.and_eq_true, ltB_iff, keyB_iff] at hx
    unfold GLt at h1 hx;simp only at h1;omega
   rw [e2];simp only [e1];rfl
  ·exact absurd ⟨h1.1.symm, h1.2.1.symm, h1.2.2.symm⟩ hk
theorem modeR_hold {l : List Gr} {g : Gr} (tx p s : Int) : modeR (holdR l g) tx p s = if g.tx = tx ∧ g.page = p ∧ g.slot = s then g.mode else modeR l tx p s:=by
 unfold modeR;rw [findK_hold];split <;> rfl
theorem hold_len (l : List Gr) (g : Gr) : (holdR l g).length ≤ l.length + 1:=by
 unfold holdR
 rw [List.length_append, List.length_cons]
 have : ∀ m : List Gr, (m.filter (fun x=>ltB x g)).length + (m.filter (fun x=>ltB g x)).length ≤ m.length:=by
  intro m
  induction m with
  | nil=>simp
  | cons x m ih =>
   rw [List.filter_cons, List.filter_cons, List.length_cons]
   cases h1 : ltB x g <;> cases h2 : ltB g x
   ·simp;omega
   ·simp;omega
   ·simp;omega
   ·exact absurd (ltB_iff.1 h2) (fun h=>(ltB_iff.1 h1).asymm h)
 have:=this l
 omega

theorem TbIn.mode_lt {h a b : List Gr} {g : Gr} (ht : TbIn ⟨h, a ++ g :: b⟩) : GrOk g ∧ modeG h g < g.mode:=ht.wait.ok g (by simp)
theorem conf_hold {h a b : List Gr} {g w x : Gr} (ht : TbIn ⟨h, a ++ g :: b⟩) (hwt : w.tx ≠ g.tx) (hx : x ∈ h) (hc : Conf x w) : ∃ y ∈ holdR h g, Conf y w:=by
 by_cases hk : x.tx = g.tx ∧ x.page = g.page ∧ x.slot = g.slot
 ·obtain ⟨hg, hm⟩:=ht.mode_lt
  have h1 : modeG h g = x.mode:=by
   show modeR h g.tx g.page g.slot = _
   rw [← hk.1, ← hk.2.1, ← hk.2.2];exact modeG_mem ht.held.up hx
  have h2:=(ht.held.ok x hx).2.2.2
  refine ⟨g, mem_hold_self h g, fun e=>hwt e.symm, by rw [← hk.2.1];exact hc.2.1, by rw [← hk.2.2];exact hc.2.2.1, ?_⟩
  have h3:=hc.2.2.2
  have h4:=hg.2.2.2
  omega
 ·exact ⟨x, mem_hold_of hx hk, hc⟩
theorem stuck_hold {h a b : List Gr} {g : Gr} (ht : TbIn ⟨h, a ++ g :: b⟩) (hs : Stuck h a) : Stuck (holdR h g) a:=by
 intro c w d e hab
 refine hs c w d e ⟨fun x hx hc=>?_, hab.2⟩
 have hwt : w.tx ≠ g.tx:=by
  have:=(List.pairwise_append.1 ht.wait.one).2.2 w (by rw [e];simp) g (by simp)
  exact this
 obtain ⟨y, hy, hcy⟩:=conf_hold ht hwt hx hc
 exact hab.1 y hy hcy
theorem in_move {h a b : List Gr} {g : Gr} (ht : TbIn ⟨h, a ++ g :: b⟩) (hab : Able h a g) : TbIn ⟨holdR h g, a ++ b⟩:=by
 obtain ⟨hg, hm⟩:=ht.mode_lt
 refine ⟨hold_ok ht.held hg hab.1, fun w hw=>?_, ?_⟩
 ·have hw' : w ∈ a ++ g :: b:=by
   rcases List.mem_append.1 hw with h | h
   ·exact List.mem_append.2 (.inl h)
   ·exact List.mem_append.2 (.inr (List.mem_cons_of_mem _ h))
  obtain ⟨h1, h2⟩:=ht.wait.ok w hw'
  refine ⟨h1, ?_⟩
  show modeR (holdR h g) w.tx w.page w.slot < w.mode
  rw [modeR_hold, if_neg]
  ·exact h2
  ·intro he
   have hone:=ht.wait.one
   rw [List.pairwise_append, List.pairwise_cons] at hone
   rcases List.mem_append.1 hw with h | h
   ·exact hone.2.2 w h g (by simp) he.1.symm
   ·exact hone.2.1.1 w h he.1
 ·have hone:=ht.wait.one
  rw [List.pairwise_append, List.pairwise_cons] at hone
  exact List.pairwise_append.2 ⟨hone.1, hone.2.1.2, fun x hx y hy=>hone.2.2 x hx y (List.mem_cons_of_mem _ hy)⟩
theorem stuck_snoc {h a : List Gr} {g : Gr} (hs : Stuck h a) (hn : ¬ Able h a g) : Stuck h (a ++ [g]):=by
 intro c w d e
 rcases List.append_eq_append_iff.1 e with ⟨u, h1, h2⟩ | ⟨u, h1, h2⟩
 ·cases u with
  | nil =>
   simp only [List.append_nil] at h1
   simp only [List.nil_append] at h2
   obtain ⟨rfl, -⟩:=List.cons.inj h2
   subst h1
   exact hn
  | cons z u =>
   simp only [List.cons_append, List.cons.injEq] at h2
   exact absurd h2.2 (by simp)
 ·cases u with
  | nil =>
   simp only [List.append_nil] at h1
   simp only [List.nil_append] at h2
   obtain ⟨rfl, -⟩:=List.cons.inj h2
   subst h1
   exact hn
  | cons z u =>
   simp only [List.cons_append, List.cons.injEq] at h2
   obtain ⟨rfl, h2⟩:=h2
   exact hs c _ u h1
theorem fold_spec {h a : List Gr} (r : List Gr) (ht : TbIn ⟨h, a ++ r⟩) (hs : Stuck h a) :
  TbIn (r.foldl stepS ⟨h, a⟩) ∧ Stuck (r.foldl stepS ⟨h, a⟩).held (r.foldl stepS ⟨h, a⟩).wait ∧ (r.foldl stepS ⟨h, a⟩).held.length + (r.foldl stepS ⟨h, a⟩).wait.length ≤ h.length + (a.length + r.length):=by
 induction r generalizing h a with
 | nil=>rw [List.append_nil] at ht;exact ⟨ht, hs, Nat.le_refl _⟩
 | cons g r ih =>
  rw [List.foldl_cons]
  unfold stepS
  cases hab : ableB h a g with
  | true =>
   rw [if_pos rfl]
   obtain ⟨h1, h2, h3⟩:=ih (in_move ht (ableB_iff.1 hab)) (stuck_hold ht hs)
   refine ⟨h1, h2, ?_⟩
   have:=hold_len h g
   rw [List.length_cons]
   exact Nat.le_trans h3 (by omega)
  | false =>
   rw [if_neg (by simp)]
   obtain ⟨h1, h2, h3⟩:=ih (a:=a ++ [g]) (by rw [List.append_assoc];exact ht) (stuck_snoc hs (ableB_false.1 hab))
   refine ⟨h1, h2, ?_⟩
   rw [List.length_append, List.length_singleton] at h3
   rw [List.length_cons]
   exact Nat.le_trans h3 (by omega)
theorem stuck_nil (h : List Gr) : Stuck h []:=by intro a g b e;exact absurd e (by simp)
theorem settle_in {t : Tb} (h : TbIn t) : TbIn (settleR t):=(fold_spec (a:=[]) t.wait h (stuck_nil _)).1
theorem settle_stuck {t : Tb} (h : TbIn t) : Stuck (settleR t).held (settleR t).wait:=(fold_spec (a:=[]) t.wait h (stuck_nil _)).2.1
theorem settle_len {t : Tb} (h : TbIn t) : (settleR t).held.length + (settleR t).wait.length ≤ t.held.length + t.wait.length:=by
 have:=(fold_spec (a:=[]) t.wait h (stuck_nil _)).2.2
 rw [List.length_nil, Nat.zero_add] at this
 exact this
theorem fold_stuck {h a : List Gr} (r : List Gr) (hs : Stuck h (a ++ r)) : r.foldl stepS ⟨h, a⟩ = ⟨h, a ++ r⟩:=by
 induction r generalizing a with
 | nil=>rw [List.append_nil];rfl
 | cons g r ih =>
  rw [List.foldl_cons]
  unfold stepS
  rw [if_neg (by rw [ableB_iff];exact hs a g r rfl)]
  have:=ih (a:=a ++ [g]) (by rw [List.append_assoc];exact hs)
  rw [List.append_assoc] at this
  exact this
theorem settle_id {t : Tb} (hs : Stuck t.held t.wait) : settleR t = t:=fold_stuck (a:=[]) t.wait hs
/-- what can be held, behind what can't, may be moved first -/
theorem settle_move {h a b : List Gr} {g : Gr} (ht : TbIn ⟨h, a ++ g :: b⟩) (hs : Stuck h a) (hab : Able h a g) : settleR ⟨h, a ++ g :: b⟩ = settleR ⟨holdR h g, a ++ b⟩:=by
 unfold settleR
 rw [List.foldl_append, List.foldl_append, List.foldl_cons]
 have h1:=fold_stuck (h:=h) (a:=[]) a hs
 have h2:=fold_stuck (h:=holdR h g) (a:=[]) a (stuck_hold ht hs)
 simp only [List.nil_append] at h1 h2
 rw [h1, h2]
 congr 1
 show stepS ⟨h, a⟩ g = _
 unfold stepS
 rw [if_pos (ableB_iff.2 hab)]

noncomputable def waitR (t : Tb) (tx : Int) : Gr × Bool:=if tbOkB t = true then ((wfind t.wait tx).getD grNil, (wfind t.wait tx).isSome) else (grNil, false)
def wplaceR (h l : List Gr) (g : Gr) : Nat :=
 if modeG h g = 0 then l.length else l.findIdx (fun w=>decide (w.page = g.page) && (decide (w.slot = g.slot) && decide (modeG h w = 0)))
def addedR (t : Tb) (g : Gr) : Tb:=⟨t.held, t.wait.take (wplaceR t.held t.wait g) ++ g :: t.wait.drop (wplaceR t.held t.wait g)⟩
noncomputable def requestR (t : Tb) (g : Gr) : Tb × Bool × Int :=
 if tbOkB t = false then (tbNil, false, 17)
 else if grOkB g = false then (tbNil, false, 1)
 else if (waitR t g.tx).2 = true then (if grEqB (waitR t g.tx).1 g = true then (t, false, 0) else (tbNil, false, 15))
 else if g.mode ≤ modeG t.held g then (t, true, 0)
 else if t.held.length + t.wait.length = 1024 then (tbNil, false, 21)
 else (settleR (addedR t g), decide (g.mode ≤ modeG (settleR (addedR t g)).held g), 0)
def leftTx (l : List Gr) (tx : Int) : List Gr:=l.filter (fun x=>!decide (x.tx = tx))
def leftKey (l : List Gr) (tx p s : Int) : List Gr:=l.filter (fun x=>!keyB x tx p s)
noncomputable def cancelR (t : Tb) (tx : Int) : Tb:=if tbOkB t = true then settleR ⟨t.held, leftTx t.wait tx⟩ else t
noncomputable def dropR (t : Tb) (tx p s : Int) : Tb:=if tbOkB t = true then settleR ⟨leftKey t.held tx p s, t.wait⟩ else t
noncomputable def releaseR (t : Tb) (tx : Int) : Tb:=if tbOkB t = true then settleR ⟨leftTx t.held tx, leftTx t.wait tx⟩ else t
end Go.Proofs.Ytooaldglgkjjgaa
/- what the functions of chapter 8 leave: valid tables, in which everyone who waits is kept waiting; again and again is once -/
namespace Go.Proofs.Ytooaldglgkjjgaa
set_option maxRecDepth 20000

theorem modeG_filter {h : List Gr} (hh : HeldOk h) (p : Gr → Bool) {w : Gr} (hw : GrOk w) (hm : modeG h w < w.mode) : modeG (h.filter p) w < w.mode:=by
  show modeR (h.filter p) w.tx w.page w.slot < w.mode
  unfold modeR
  cases hf : findK (h.filter p) w.tx w.page w.slot with
  | none=>have:=hw.2.2.2;simp only [Option.elim_none];omega
  | some x =>
    obtain ⟨hx, h1, h2, h3⟩:=findK_some hf
    have hx:=(List.mem_filter.1 hx).1
    have:=modeG_mem hh.up hx
    rw [show modeG h x = modeG h w by show modeR h _ _ _ = modeR h _ _ _;rw [h1, h2, h3]] at this
    simp only [Option.elim_some]
    omega
theorem left_in {h l : List Gr} (ht : TbIn ⟨h, l⟩) (p q : Gr → Bool) : TbIn ⟨h.filter p, l.filter q⟩ :=
  ⟨⟨fun g hg=>ht.held.ok g (List.mem_filter.1 hg).1, ht.held.up.filter _, ht.held.free.filter _⟩,
   ⟨fun g hg=>have h1:=ht.wait.ok g (List.mem_filter.1 hg).1;⟨h1.1, modeG_filter ht.held p h1.1 h1.2⟩, ht.wait.one.filter _⟩⟩
theorem filter_all {l : List Gr} : l.filter (fun _=>true) = l:=List.filter_eq_self.2 (fun _ _=>rfl)
theorem left_in_h {h l : List Gr} (ht : TbIn ⟨h, l⟩) (p : Gr → Bool) : TbIn ⟨h.filter p, l⟩:=by
  have:=left_in ht p (fun _=>true);rwa [filter_all] at this
theorem left_in_w {h l : List Gr} (ht : TbIn ⟨h, l⟩) (q : Gr → Bool) : TbIn ⟨h, l.filter q⟩:=by
  have:=left_in ht (fun _=>true) q;rwa [filter_all] at this
structure Settled (t : Tb) : Prop where
  ok : TbOk t
  stuck : Stuck t.held t.wait
theorem settled_of {t : Tb} (h : TbIn t) (hf : t.held.length + t.wait.length ≤ 1024) : Settled (settleR t) :=
  ⟨⟨Nat.le_trans (settle_len h) hf, settle_in h⟩, settle_stuck h⟩
theorem cancel_in {t : Tb} (h : TbOk t) (tx : Int) : TbIn ⟨t.held, leftTx t.wait tx⟩:=left_in_w h.tin _
theorem drop_in {t : Tb} (h : TbOk t) (tx p s : Int) : TbIn ⟨leftKey t.held tx p s, t.wait⟩:=left_in_h h.tin _
theorem release_in {t : Tb} (h : TbOk t) (tx : Int) : TbIn ⟨leftTx t.held tx, leftTx t.wait tx⟩:=left_in h.tin _ _
theorem leftTx_len (l : List Gr) (tx : Int) : (leftTx l tx).length ≤ l.length:=List.length_filter_le _ _
theorem leftKey_len (l : List Gr) (tx p s : Int) : (leftKey l tx p s).length ≤ l.length:=List.length_filter_le _ _
def tbLen (t : Tb) : Nat:=t.held.length + t.wait.length
theorem cancel_ok {t : Tb} (h : TbOk t) (tx : Int) : Settled (cancelR t tx) ∧ tbLen (cancelR t tx) ≤ tbLen t:=by
  unfold cancelR;rw [if_pos (tbOkB_iff.2 h)]
  have h1:=leftTx_len t.wait tx
  have h2:=h.few
  have h3:=settle_len (cancel_in h tx)
  simp only at h3
  exact ⟨settled_of (cancel_in h tx) (by simp only;omega), by unfold tbLen;omega⟩
theorem drop_ok {t : Tb} (h : TbOk t) (tx p s : Int) : Settled (dropR t tx p s) ∧ tbLen (dropR t tx p s) ≤ tbLen t:=by
  unfold dropR;rw [if_pos (tbOkB_iff.2 h)]
  have h1:=leftKey_len t.held tx p s
  have h2:=h.few
  have h3:=settle_len (drop_in h tx p s)
  simp only at h3
  exact ⟨settled_of (drop_in h tx p s) (by simp only;omega), by unfold tbLen;omega⟩
theorem release_ok {t : Tb} (h : TbOk t) (tx : Int) : Settled (releaseR t tx) ∧ tbLen (releaseR t tx) ≤ tbLen t:=by
  unfold releaseR;rw [if_pos (tbOkB_iff.2 h)]
  have h1:=leftTx_len t.wait tx
  have h4:=leftTx_len t.held tx
  have h2:=h.few
  have h3:=settle_len (release_in h tx)
  simp only at h3
  exact ⟨settled_of (release_in h tx) (by simp only;omega), by unfold tbLen;omega⟩
theorem wfind_some {l : List Gr} {tx : Int} {x : Gr} (h : wfind l tx = some x) : x ∈ l ∧ x.tx = tx :=
  ⟨List.mem_of_find?_eq_some h, by have:=List.find?_some (p:=fun x : Gr=>decide (x.tx = tx)) h;simpa using this⟩
theorem wfind_none {l : List Gr} {tx : Int} (h : wfind l tx = none) : ∀ x ∈ l, x.tx ≠ tx:=by
  intro x hx hk
  have:=List.find?_eq_none.1 h x hx
  simp [hk] at this
theorem wfind_none_of {l : List Gr} {tx : Int} (h : ∀ x ∈ l, x.tx ≠ tx) : wfind l tx = none:=by
  unfold wfind;rw [List.find?_eq_none];intro x hx;simpa using h x hx
theorem wfind_mem {l : List Gr} (hl : l.Pairwise (fun a b=>a.tx ≠ b.tx)) {x : Gr} (hx : x ∈ l) : wfind l x.tx = some x:=by
  induction l with
  | nil=>cases hx
  | cons y l ih =>
    rw [List.pairwise_cons] at hl
    unfold wfind;rw [List.find?_cons]
    rcases List.mem_cons.1 hx with rfl | hx'
    · simp
    · rw [decide_eq_false (hl.1 x hx')];exact ih hl.2 hx'
theorem waitR_of {t : Tb} (h : TbOk t) (tx : Int) : waitR t tx = ((wfind t.wait tx).getD grNil, (wfind t.wait tx).isSome):=by
  unfold waitR;rw [if_pos (tbOkB_iff.2 h)]
theorem added_in {t : Tb} {g : Gr} (h : TbOk t) (hg : GrOk g) (hw : ∀ x ∈ t.wait, x.tx ≠ g.tx) (hm : modeG t.held g < g.mode) : TbIn (addedR t g):=by
  refine ⟨h.tin.held, fun w hw'=>?_, ?_⟩
  · have hw' : w ∈ t.wait.take (wplaceR t.held t.wait g) ++ g :: t.wait.drop (wplaceR t.held t.wait g):=hw'
    rcases List.mem_append.1 hw' with h1 | h1
    · exact h.tin.wait.ok w (List.mem_of_mem_take h1)
    · rcases List.mem_cons.1 h1 with rfl | h1
      · exact ⟨hg, hm⟩
      · exact h.tin.wait.ok w (List.mem_of_mem_drop h1)
  · show (t.wait.take (wplaceR t.held t.wait g) ++ g :: t.wait.drop (wplaceR t.held t.wait g)).Pairwise _
    have ho:=h.tin.wait.one
    have ho2:=ho
    rw [← List.take_append_drop (wplaceR t.held t.wait g) t.wait, List.pairwise_append] at ho2
    rw [List.pairwise_append, List.pairwise_cons]
    refine ⟨ho2.1, ⟨fun x hx e=>hw x (List.mem_of_mem_drop hx) e.symm, ho2.2.1⟩, fun x hx y hy=>?_⟩
    rcases List.mem_cons.1 hy with rfl | hy
    · exact hw x (List.mem_of_mem_take hx)
    · exact ho2.2.2 x hx y hy
theorem added_len (t : Tb) (g : Gr) : (addedR t g).held.length + (addedR t g).wait.length = t.held.length + t.wait.length + 1:=by
  show t.held.length + (t.wait.take (wplaceR t.held t.wait g) ++ g :: t.wait.drop (wplaceR t.held t.wait g)).length = _
  rw [List.length_append, List.length_cons, List.length_take, List.length_drop];omega
/-- the ways in which a request is granted or waits -/
theorem request_cases {t : Tb} {g : Gr} (h : TbOk t) (hr : (requestR t g).2.2 = 0) :
    GrOk g ∧ ((wfind t.wait g.tx = some g ∧ requestR t g = (t, false, 0)) ∨ ((∀ x ∈ t.wait, x.tx ≠ g.tx) ∧ g.mode ≤ modeG t.held g ∧ requestR t g = (t, true, 0)) ∨
      ((∀ x ∈ t.wait, x.tx ≠ g.tx) ∧ modeG t.held g < g.mode ∧ TbIn (addedR t g) ∧ (addedR t g).held.length + (addedR t g).wait.length ≤ 1024 ∧ requestR t g = (settleR (addedR t g), decide (g.mode ≤ modeG (settleR (addedR t g)).held g), 0))):=by
  have hb : tbOkB t = true:=tbOkB_iff.2 h
  have hd : requestR t g = if tbOkB t = false then (tbNil, false, 17)
    else if grOkB g = false then (tbNil, false, 1)
    else if (waitR t g.tx).2 = true then (if grEqB (waitR t g.tx).1 g = true then (t, false, 0) else (tbNil, false, 15))
    else if g.mode ≤ modeG t.held g then (t, true, 0)
    else if t.held.length + t.wait.length = 1024 then (tbNil, false, 21)
    else (settleR (addedR t g), decide (g.mode ≤ modeG (settleR (addedR t g)).held g), 0):=rfl
  rw [hb, if_neg (by decide)] at hd
  rw [hd] at hr ⊢
  cases hg : grOkB g with
  | false=>rw [hg, if_pos rfl] at hr;exact absurd hr (by decide)
  | true =>
    have hgo:=grOkB_iff.1 hg
    refine ⟨hgo, ?_⟩
    rw [hg, if_neg (by decide), waitR_of h] at hr
    rw [if_neg (by decide), waitR_of h]
    cases hw : wfind t.wait g.tx with
    | some w =>
      rw [hw] at hr
      simp only [Option.isSome_some, if_true, Option.getD_some] at hr ⊢
      rcases Classical.em (grEqB w g = true) with he | he
      · obtain rfl:=grEqB_iff.1 he;exact .inl ⟨rfl, by rw [if_pos he]⟩
      · rw [if_neg he] at hr;exact absurd hr (by decide)
    | none =>
      have hno:=wfind_none hw
      rw [hw] at hr
      simp only [Option.isSome_none, Bool.false_eq_true, if_false] at hr ⊢
      refine .inr ?_
      by_cases hm : g.mode ≤ modeG t.held g
      · exact .inl ⟨hno, hm, by rw [if_pos hm]⟩
      · rw [if_neg hm] at hr ⊢
        by_cases hl : t.held.length + t.wait.length = 1024
        · rw [if_pos hl] at hr;exact absurd hr (by decide)
        · rw [if_neg hl]
          exact .inr ⟨hno, by omega, added_in h hgo hno (by omega), by have:=added_len t g;have:=h.few;omega, rfl⟩
theorem request_ok {t : Tb} {g : Gr} (h : TbOk t) (hr : (requestR t g).2.2 = 0) :
    TbOk (requestR t g).1 ∧ (Stuck t.held t.wait → Stuck (requestR t g).1.held (requestR t g).1.wait) ∧ (requestR t g).2.1 = decide (g.mode ≤ modeG (requestR t g).1.held g) ∧ tbLen (requestR t g).1 ≤ tbLen t + 1:=by
  obtain ⟨hg, ⟨hw, e⟩ | ⟨hno, hm, e⟩ | ⟨hno, hm, hi, hl, e⟩⟩:=request_cases h hr
  · rw [e]
    refine ⟨h, id, ?_, Nat.le_succ _⟩
    have:=(h.tin.wait.ok g (wfind_some hw).1).2
    exact (decide_eq_false (by show ¬ g.mode ≤ modeG t.held g;omega)).symm
  · rw [e];exact ⟨h, id, (decide_eq_true hm).symm, Nat.le_succ _⟩
  · rw [e]
    have:=settled_of hi hl
    have h2:=settle_len hi
    rw [added_len] at h2
    exact ⟨this.ok, fun _=>this.stuck, rfl, h2⟩
theorem fold_mem {h a : List Gr} (r : List Gr) {x : Gr} : (x ∈ (r.foldl stepS ⟨h, a⟩).wait → x ∈ a ∨ x ∈ r) ∧ (x ∈ (r.foldl stepS ⟨h, a⟩).held → x ∈ h ∨ x ∈ r):=by
  induction r generalizing h a with
  | nil=>exact ⟨.inl, .inl⟩
  | cons g r ih =>
    rw [List.foldl_cons]
    unfold stepS
    split
    · obtain ⟨h1, h2⟩:=ih (h:=holdR h g) (a:=a)
      refine ⟨fun hx=>(h1 hx).elim .inl (fun k=>.inr (List.mem_cons_of_mem _ k)), fun hx=>?_⟩
      rcases h2 hx with k | k
      · rcases mem_hold k with rfl | k
        · exact .inr (by simp)
        · exact .inl k
      · exact .inr (List.mem_cons_of_mem _ k)
    · obtain ⟨h1, h2⟩:=ih (h:=h) (a:=a ++ [g])
      refine ⟨fun hx=>?_, fun hx=>(h2 hx).elim .inl (fun k=>.inr (List.mem_cons_of_mem _ k))⟩
      rcases h1 hx with k | k
      · rcases List.mem_append.1 k with k | k
        · exact .inl k
        · exact .inr (by rw [List.mem_singleton.1 k];simp)
      · exact .inr (List.mem_cons_of_mem _ k)
theorem settle_wait {t : Tb} {x : Gr} (h : x ∈ (settleR t).wait) : x ∈ t.wait:=((fold_mem (a:=[]) t.wait).1 h).elim (fun h=>by cases h) id
theorem fold_keeps {x : Gr} {h a : List Gr} (r : List Gr) (hx : (x ∈ a ∨ x ∈ r) ∨ (modeG h x = x.mode ∧ (∀ y ∈ a, y.tx ≠ x.tx) ∧ ∀ y ∈ r, y.tx ≠ x.tx)) (hone : (a ++ r).Pairwise (fun a b=>a.tx ≠ b.tx)) :
    x ∈ (r.foldl stepS ⟨h, a⟩).wait ∨ modeG (r.foldl stepS ⟨h, a⟩).held x = x.mode:=by
  induction r generalizing h a with
  | nil =>
    rcases hx with (h1 | h1) | h1
    · exact .inl h1
    · cases h1
    · exact .inr h1.1
  | cons g r ih =>
    rw [List.foldl_cons]
    rw [List.pairwise_append, List.pairwise_cons] at hone
    unfold stepS
    split
    · refine ih ?_ (List.pairwise_append.2 ⟨hone.1, hone.2.1.2, fun x hx y hy=>hone.2.2 x hx y (List.mem_cons_of_mem _ hy)⟩)
      rcases hx with (h1 | h1) | h1
      · exact .inl (.inl h1)
      · rcases List.mem_cons.1 h1 with rfl | h1
        · refine .inr ⟨?_, fun y hy=>hone.2.2 y hy x (by simp), fun y hy e=>hone.2.1.1 y hy e.symm⟩
          show modeR _ _ _ _ = _
          rw [modeR_hold, if_pos ⟨rfl, rfl, rfl⟩]
        · exact .inl (.inr h1)
      · refine .inr ⟨?_, h1.2.1, fun y hy=>h1.2.2 y (List.mem_cons_of_mem _ hy)⟩
        show modeR _ _ _ _ = _
        rw [modeR_hold, if_neg (fun e=>h1.2.2 g (by simp) e.1)]
        exact h1.1
    · refine ih ?_ (by rw [List.append_assoc];exact List.pairwise_append.2 ⟨hone.1, List.pairwise_cons.2 hone.2.1, hone.2.2⟩)
      rcases hx with (h1 | h1) | h1
      · exact .inl (.inl (List.mem_append.2 (.inl h1)))
      · rcases List.mem_cons.1 h1 with rfl | h1
        · exact .inl (.inl (by simp))
        · exact .inl (.inr h1)
      · refine .inr ⟨h1.1, fun y hy=>?_, fun y hy=>h1.2.2 y (List.mem_cons_of_mem _ hy)⟩
        rcases List.mem_append.1 hy with hy | hy
        · exact h1.2.1 y hy
        · exact h1.2.2 y (by rw [List.mem_singleton.1 hy];simp)
theorem settle_keeps {t : Tb} (h : TbIn t) {x : Gr} (hx : x ∈ t.wait) : x ∈ (settleR t).wait ∨ modeG (settleR t).held x = x.mode :=
  fold_keeps (a:=[]) t.wait (.inl (.inr hx)) h.wait.one
theorem request_of {t : Tb} {g : Gr} (h : TbOk t) (hg : GrOk g) : requestR t g = if (waitR t g.tx).2 = true then (if grEqB (waitR t g.tx).1 g = true then (t, false, 0) else (tbNil, false, 15))
    else if g.mode ≤ modeG t.held g then (t, true, 0)
    else if t.held.length + t.wait.length = 1024 then (tbNil, false, 21)
    else (settleR (addedR t g), decide (g.mode ≤ modeG (settleR (addedR t g)).held g), 0):=by
  rw [show requestR t g = if tbOkB t = false then (tbNil, false, 17)
    else if grOkB g = false then (tbNil, false, 1)
    else if (waitR t g.tx).2 = true then (if grEqB (waitR t g.tx).1 g = true then (t, false, 0) else (tbNil, false, 15))
    else if g.mode ≤ modeG t.held g then (t, true, 0)
    else if t.held.length + t.wait.length = 1024 then (tbNil, false, 21)
    else (settleR (addedR t g), decide (g.mode ≤ modeG (settleR (addedR t g)).held g), 0) from rfl]
  rw [tbOkB_iff.2 h, grOkB_iff.2 hg, if_neg (by decide), if_neg (by decide)]
theorem tbNil_ok : TbOk tbNil:=⟨by show (0 : Nat) + 0 ≤ 1024;omega, ⟨⟨fun g hg=>absurd hg (by simp [tbNil]), List.Pairwise.nil, List.Pairwise.nil⟩, ⟨fun g hg=>absurd hg (by simp [tbNil]), List.Pairwise.nil⟩⟩⟩
theorem tbNil_settled : Settled tbNil:=⟨tbNil_ok, stuck_nil _⟩
end Go.Proofs.Ytooaldglgkjjgaa
/- the choices of the drawing package: what Next gives lies in its range, and nothing but the place in the codes is changed -/
namespace Go.Proofs.Ytooaldglgkjjgaa
open Go.RowKit
set_option maxRecDepth 20000

/-- nothing that was there is changed, but for block C -/
structure Besides (C : Nat) (w w' : World) : Prop where
  os : w'.os = w.os
  tape : w'.tape = w.tape
  output : w'.output = w.output
  size : w.heap.size ≤ w'.heap.size
  block : ∀ k, k < w.heap.size → k ≠ C → w'.heap[k]? = w.heap[k]?
  head : C < w.heap.size → w'.cell? ⟨C, 0, none⟩ = w.cell? ⟨C, 0, none⟩
theorem Besides.refl (C : Nat) (w : World) : Besides C w w:=⟨rfl, rfl, rfl, Nat.le_refl _, fun _ _ _=>rfl, fun _=>rfl⟩
theorem Besides.trans {C : Nat} {a b c : World} (h : Besides C a b) (k : Besides C b c) : Besides C a c :=
  ⟨k.os.trans h.os, k.tape.trans h.tape, k.output.trans h.output, Nat.le_trans h.size k.size, fun i hi hC=>(k.block i (Nat.lt_of_lt_of_le hi h.size) hC).trans (h.block i hi hC), fun hC=>(k.head (Nat.lt_of_lt_of_le hC h.size)).trans (h.head hC)⟩
theorem Besides.below {C B : Nat} {w w' : World} (h : Besides C w w') (hC : B ≤ C) (hB : B ≤ w.heap.size) : Below B w w':=⟨h.os, h.tape, h.output, h.size, fun k hk=>h.block k (by omega) (by omega)⟩
theorem Besides.cell {C : Nat} {w w' : World} (h : Besides C w w') {p : Addr} (hp : p.block < w.heap.size) (hC : p.block ≠ C) : w'.cell? p = w.cell? p:=World.cell?_of_block (h.block p.block hp hC)
theorem Besides.frozen {C : Nat} {w w' : World} (h : Besides C w w') {p : Addr} (hp : p.block < w.heap.size) (hC : p.block ≠ C) : w'.frozen? p = w.frozen? p:=World.frozen?_of_block (h.block p.block hp hC)
theorem Besides.drewN {C : Nat} {a w : World} (h : Besides C a w) (n : Nat) : Besides C a (w.drewN n):=⟨h.os, h.tape, h.output, h.size, h.block, h.head⟩
theorem Besides.drew {C : Nat} {a w : World} (h : Besides C a w) : Besides C a w.drew:=⟨h.os, h.tape, h.output, h.size, h.block, h.head⟩
theorem Besides.alloc {C : Nat} {a w : World} (h : Besides C a w) (o : Obj) : Besides C a (w.alloc o) :=
  h.trans ⟨rfl, rfl, rfl, by simp, fun k hk _=>Below.heap_alloc _ _ _ hk, fun hC=>World.cell?_alloc_lt _ _ _ hC⟩
theorem Besides.set {C : Nat} {a w : World} (h : Besides C a w) (j : Nat) (u : Value) (hj : j ≠ 0) : Besides C a (w.setCell ⟨C, j, none⟩ u) :=
  h.trans ⟨rfl, rfl, rfl, by simp [World.setCell], fun k _ hC=>Below.heap_setCell _ _ _ _ hC, fun _=>World.cell?_setCell_other _ _ _ _ (fun e=>hj (by injection e))⟩
/-- a value of codes lies at block C -/
def CodesAt (w : World) (C : Nat) (a : Option Addr) (len cap : Nat) (i : Int) : Prop :=
  C < w.heap.size ∧ w.cell? ⟨C, 0, none⟩ = some (.slice a len cap) ∧ w.cell? ⟨C, 1, none⟩ = some (.int .i64 i) ∧ w.frozen? ⟨C, 1, none⟩ = false ∧ 0 ≤ i ∧ i ≤ 9223372036854775806 ∧ len ≤ 4611686018427387904
    ∧ (0 < len → ∃ b off, a = some ⟨b, off, none⟩ ∧ b < C ∧ ∀ j, j < len → ∃ z : Int, w.cell? ⟨b, off + j, none⟩ = some (.int .u8 z) ∧ 0 ≤ z ∧ z ≤ 255)
def CodesOk (w : World) (C : Nat) : Prop:=∃ a len cap i, CodesAt w C a len cap i
/-- codes stay codes while their block and older ones stay -/
theorem CodesAt.keep {w w' : World} {C len cap : Nat} {a : Option Addr} {i : Int} (h : CodesAt w C a len cap i) (hs : w.heap.size ≤ w'.heap.size) (hb : ∀ k, k ≤ C → w'.heap[k]? = w.heap[k]?) : CodesAt w' C a len cap i:=by
  obtain ⟨h0, h1, h2, h3, h4, h5, h6, h7⟩:=h
  have cell : ∀ (k j : Nat), k ≤ C → w'.cell? ⟨k, j, none⟩ = w.cell? ⟨k, j, none⟩:=fun k j hk=>World.cell?_of_block (a:=⟨k, j, none⟩) (hb k hk)
  refine ⟨by omega, by rw [cell C 0 (Nat.le_refl _), h1], by rw [cell C 1 (Nat.le_refl _), h2], by rw [World.frozen?_of_block (a:=⟨C, 1, none⟩) (hb C (Nat.le_refl _)), h3], h4, h5, h6, fun hl=>?_⟩
  obtain ⟨b, off, ha, hbC, hz⟩:=h7 hl
  exact ⟨b, off, ha, hbC, fun j hj=>by rw [cell b (off + j) (by omega)];exact hz j hj⟩
theorem CodesOk.below {w w' : World} {C B : Nat} (h : CodesOk w C) (hb : Below B w w') (hB : C < B) : CodesOk w' C:=by
  obtain ⟨a, len, cap, i, h⟩:=h
  exact ⟨a, len, cap, i, h.keep hb.size (fun k hk=>hb.block k (by omega))⟩
theorem CodesOk.drewN {w : World} {C : Nat} (h : CodesOk w C) (n : Nat) : CodesOk (w.drewN n) C:=by
  obtain ⟨a, len, cap, i, h⟩:=h
  exact ⟨a, len, cap, i, h.keep (Nat.le_refl _) (fun _ _=>rfl)⟩
theorem CodesOk.lt {w : World} {C : Nat} (h : CodesOk w C) : C < w.heap.size:=by
  obtain ⟨a, len, cap, i, h⟩:=h
  exact h.1
theorem CodesOk.drew {w : World} {C : Nat} (h : CodesOk w C) : CodesOk w.drew C:=by
  obtain ⟨a, len, cap, i, h⟩:=h
  exact ⟨a, len, cap, i, h.keep (Nat.le_refl _) (fun _ _=>rfl)⟩
/-- the place goes on -/
theorem CodesAt.next {w : World} {C len cap : Nat} {a : Option Addr} {i : Int} (h : CodesAt w C a len cap i) (hi : i < len) : CodesOk (w.setCell ⟨C, 1, none⟩ (.int .i64 (i + 1))) C:=by
  obtain ⟨h0, h1, h2, h3, h4, h5, h6, h7⟩:=h
  refine ⟨a, len, cap, i + 1, by simpa using h0, ?_, World.cell?_setCell_same w _ _ h2, by rw [World.frozen?_setCell];exact h3, by omega, by omega, h6, fun hl=>?_⟩
  · rw [World.cell?_setCell_other w _ _ _ (by intro h;cases h)];exact h1
  · obtain ⟨b, off, ha, hbC, hz⟩:=h7 hl
    refine ⟨b, off, ha, hbC, fun j hj=>?_⟩
    rw [World.cell?_setCell_other w _ _ _ (by intro h;injection h with h1 _ _;omega)]
    exact hz j hj
/-- what Next leaves -/
def NextPost (C : Nat) (n : Int) (w : World) (e : Ending) (w' : World) : Prop :=
  ∃ x : Int, e = .returned (.int .i64 x) ∧ 0 ≤ x ∧ (x < n ∨ x = 0) ∧ Besides C w w' ∧ CodesOk w' C
set_option maxHeartbeats 400000 in
theorem next_end (C : Nat) (a : Option Addr) (len cap : Nat) (i n : Int) (w : World) (h : CodesAt w C a len cap i) (hz : (len : Int) ≤ i ∨ n < 1) :
    Calls Try.prog 20 #[.pointer (some ⟨C, 0, none⟩), .int .i64 n] w (NextPost C n w):=by
  have HK : Hid (CodesOk w C):=⟨a, len, cap, i, h⟩
  have h1:=h.2.1
  have h2:=h.2.2.1
  clear h
  by_cases hl : (len : Int) ≤ i
  · have d1 : decide ((len : Int) ≤ i) = true:=by simpa using hl
    clear hz
    go_enter Try.func20, Try.ntmps20
    go_wp2
    go_quiet (fail)
    go_wp2
    go_ret
    exact ⟨0, rfl, Int.le_refl _, Or.inr rfl, (Besides.refl _ _).drewN _, HK.out.drewN _⟩
  · have d1 : decide ((len : Int) ≤ i) = false:=by simpa using hl
    have hn : n < 1:=by omega
    have d2 : decide (n < 1) = true:=by simpa using hn
    clear hz
    go_enter Try.func20, Try.ntmps20
    go_wp2
    go_quiet (fail)
    go_wp2
    go_ret
    exact ⟨0, rfl, Int.le_refl _, Or.inr rfl, (Besides.refl _ _).drewN _, HK.out.drewN _⟩
set_option maxHeartbeats 400000 in
theorem next_small (C : Nat) (n : Int) (w : World) (h : CodesOk w C) (hn : n ≤ 256) :
    Calls Try.prog 20 #[.pointer (some ⟨C, 0, none⟩), .int .i64 n] w (NextPost C n w):=by
  obtain ⟨a, len, cap, i, h⟩:=h
  by_cases hz : (len : Int) ≤ i ∨ n < 1
  · exact next_end C a len cap i n w h hz
  have hi : i < len:=by omega
  have h1n : 1 ≤ n:=by omega
  have HK : Hid (∀ q : Nat, CodesOk ((w.drewN q).setCell ⟨C, 1, none⟩ (.int .i64 (i + 1))) C):=fun q=>(h.keep (w':=w.drewN q) (Nat.le_refl _) (fun _ _=>rfl)).next hi
  obtain ⟨h0, h1, h2, h3, h4, h5, h6, h7⟩:=h
  obtain ⟨b, off, rfl, hbC, hcell⟩:=h7 (by omega)
  obtain ⟨k, rfl⟩:=Int.eq_ofNat_of_zero_le h4
  obtain ⟨z, hzc, z0, z1⟩:=hcell k (by omega)
  clear hcell h7 hz
  have d1 : decide (len ≤ k) = false:=by simp;omega
  have d2 : decide (n < 1) = false:=by simp;omega
  have hk : (k : Int) < (len : Int):=by omega
  have hk0 : (0 : Int) ≤ (k : Int):=by omega
  have hg : ¬ 256 < n:=by omega
  have dz:=Int.emod_nonneg z (show n ≠ 0 by omega)
  have dz2:=Int.emod_lt_of_pos z (show 0 < n by omega)
  go_enter Try.func20, Try.ntmps20
  go_wp2
  go_quiet (fail)
  go_wp2
  go_quiet (fail)
  go_wp2
  go_ret
  exact ⟨z % n, rfl, dz, Or.inl dz2, ((Besides.refl _ _).drewN _).set _ _ (by decide), HK.out _⟩
set_option maxHeartbeats 400000 in
theorem next_any (C : Nat) (n : Int) (w : World) (h : CodesOk w C) (hmax : n ≤ 4611686018427387904) :
    Calls Try.prog 20 #[.pointer (some ⟨C, 0, none⟩), .int .i64 n] w (NextPost C n w):=by
  by_cases hn : n ≤ 256
  · exact next_small C n w h hn
  obtain ⟨a, len, cap, i, h⟩:=h
  by_cases hz : (len : Int) ≤ i
  · exact next_end C a len cap i n w h (Or.inl hz)
  have hi : i < len:=by omega
  have HK : Hid (∀ q : Nat, CodesOk ((w.drewN q).setCell ⟨C, 1, none⟩ (.int .i64 (i + 1))) C):=fun q=>(h.keep (w':=w.drewN q) (Nat.le_refl _) (fun _ _=>rfl)).next hi
  obtain ⟨h0, h1, h2, h3, h4, h5, h6, h7⟩:=h
  obtain ⟨b, off, rfl, hbC, hcell⟩:=h7 (by omega)
  obtain ⟨k, rfl⟩:=Int.eq_ofNat_of_zero_le h4
  obtain ⟨z, hzc, z0, z1⟩:=hcell k (by omega)
  clear hcell h7 hz
  have d1 : decide (len ≤ k) = false:=by simp;omega
  have d2 : decide (n < 1) = false:=by simp;omega
  have hk : (k : Int) < (len : Int):=by omega
  have hk0 : (0 : Int) ≤ (k : Int):=by omega
  have hg : 256 < n:=by omega
  clear hn
  go_enter Try.func20, Try.ntmps20
  go_wp2_with fail
  go_quiet (fail)
  go_wp2_with fail
  go_quiet (fail)
  go_wp2_with fail
  refine (next_small C 256 _ (HK.out _) (by omega)).mono ?_
  rintro e w2 ⟨x, rfl, x0, x1, hb, hc⟩
  have x2 : x ≤ 255:=by omega
  clear x1
  have hn0 : 0 < n:=by omega
  have dz:=Int.emod_nonneg (256 * z + x) (show n ≠ 0 by omega)
  have dz2:=Int.emod_lt_of_pos (256 * z + x) (show 0 < n by omega)
  go_wp2_with fail
  go_ret
  exact ⟨_, rfl, dz, Or.inl dz2, (((Besides.refl _ _).drewN _).set _ _ (by decide)).trans hb, hc⟩
end Go.Proofs.Ytooaldglgkjjgaa
/- small things about memory that all texts use -/
namespace Go.Proofs.Ytooaldglgkjjgaa
open Go.RowKit
set_option maxRecDepth 20000

theorem ret_bool {a b : Bool} (h : a = b) : Ending.returned (.bool a) = .returned (.bool b):=by rw [h]
theorem heap_alloc_last (w : World) (o : Obj) : (w.alloc o).heap[w.heap.size]? = some o:=by
  show (w.heap.push o)[w.heap.size]? = some o
  simp
theorem Besides.then_below {C : Nat} {a w w' : World} (h : Besides C a w) (hb : Below a.heap.size w w') : Besides C a w' :=
  ⟨hb.os.trans h.os, hb.tape.trans h.tape, hb.output.trans h.output, Nat.le_trans h.size hb.size, fun k hk hC=>(hb.block k hk).trans (h.block k hk hC), fun hC=>(World.cell?_of_block (a:=⟨C, 0, none⟩) (hb.block C hC)).trans (h.head hC)⟩
theorem Besides.setOwn {C B : Nat} {a w : World} (h : Besides C a w) (hB : a.heap.size ≤ B) (j : Nat) (u : Value) : Besides C a (w.setCell ⟨B, j, none⟩ u) :=
  h.then_below ((Below.refl _ _).setCell (p:=⟨B, j, none⟩) hB u)
theorem CodesOk.setOwn {C B : Nat} {w : World} (h : CodesOk w C) (hB : C < B) (j : Nat) (u : Value) : CodesOk (w.setCell ⟨B, j, none⟩ u) C :=
  h.below ((Below.refl B w).setCell (p:=⟨B, j, none⟩) (Nat.le_refl _) u) hB
theorem info_of {t : TypeId} {z : Value} {s b : Nat} (h : (Try.prog.info? t).map (fun i=>(i.zero, i.size, i.bytes)) = some (some z, s, b)) : ∃ i, Try.prog.info? t = some i ∧ i.zero = some z ∧ i.size = s ∧ i.bytes = b:=by
  cases e : Try.prog.info? t with
  | none=>rw [e] at h;cases h
  | some i =>
    rw [e] at h
    simp only [Option.map_some, Option.some.injEq, Prod.mk.injEq] at h
    exact ⟨i, rfl, h.1, h.2.1, h.2.2⟩
end Go.Proofs.Ytooaldglgkjjgaa
/- whether two cells are equal, as the program compares them -/
namespace Go.Proofs.Ytooaldglgkjjgaa
open Go.RowKit

theorem cellsOf_int : Try.prog.cellsOf 3 = 1:=by kernel_rfl
theorem lits_int (d : Nat) (n : Int) (h : (Lit.int .i64 n).wf = true) : Try.prog.keyLits (d + 1) 3 [.int .i64 n] = some [.int .i64 n]:=by
  simp [Program.keyLits, Try.underlying3, h]
end Go.Proofs.Ytooaldglgkjjgaa
/- the choices of the drawing package: New and Spoilt -/
namespace Go.Proofs.Ytooaldglgkjjgaa
open Go.RowKit
set_option maxRecDepth 20000
/-- the codes of a slice that came in, at a block behind it -/
theorem codes_of_row {w : World} {a : Option Addr} {len cap : Nat} {zs : List Int} (h : IsRow .u8 w a len cap zs) (l c : Nat) (hl : l ≤ len) (hl2 : l ≤ 4611686018427387904) :
    CodesOk (w.alloc (.cells #[.slice a l c, .int .i64 0] 56)) w.heap.size:=by
  refine ⟨a, l, c, 0, by simp, by rw [World.cell?_alloc_new];rfl, by rw [World.cell?_alloc_new];rfl, by rw [World.frozen?_alloc_new], by omega, by omega, hl2, fun h0=>?_⟩
  rcases h with ⟨_, h, _, _⟩ | ⟨x, rfl, hlc, _, hz, hcell, hwf⟩
  · omega
  · obtain ⟨b, off, spot⟩:=x
    have hc:=hcell 0 (by omega)
    have hspot : spot = none:=by simpa [Addr.add] using World.cell?_spot hc
    subst hspot
    have hb0 : w.cell? ⟨b, off, none⟩ = some (.int .u8 (zs.getD 0 0)):=by simpa [Addr.add] using hc
    have hb : b < w.heap.size:=World.block_lt_of_cell? w _ hb0
    refine ⟨b, off, rfl, hb, fun j hj=>⟨zs.getD j 0, ?_, ?_⟩⟩
    · have e : (⟨b, off, none⟩ : Addr).add j = ⟨b, off + j, none⟩:=by
        simp only [Addr.add];split
        · next h=>rw [h];rfl
        · rfl
      have:=hcell j (by omega)
      rw [e] at this
      rw [World.cell?_alloc_lt _ _ _ hb]
      exact this
    · have hm : zs.getD j 0 ∈ zs:=by
        rw [List.getD_eq_getElem?_getD, List.getElem?_eq_getElem (by omega), Option.getD_some];exact List.getElem_mem _
      obtain ⟨u, hu⟩:=byte_of_wf (hwf _ hm)
      have:=u.toNat_lt
      rw [hu]
      omega
end Go.Proofs.Ytooaldglgkjjgaa
/- what all laws begin with: the choices -/
namespace Go.Proofs.Ytooaldglgkjjgaa
open Go.RowKit
set_option maxRecDepth 20000

/-- the codes' own slice -/
def CodesRow (W : World) (B : Nat) (a : Option Addr) (len : Nat) : Prop:=∃ l c, W.cell? ⟨B, 0, none⟩ = some (.slice a l c) ∧ (0 < l → 0 < len)
set_option maxHeartbeats 400000 in
theorem new_at (m : Nat) (hm : m ≤ 1000) (a : Option Addr) (len cap : Nat) (zs : List Int) (w : World) (h : IsRow .u8 w a len cap zs) :
    Calls Try.prog 7 #[.slice a len cap, .int .i64 m] w fun e w'=>e = .returned (.pointer (some ⟨w.heap.size, 0, none⟩)) ∧ Below w.heap.size w w' ∧ CodesOk w' w.heap.size ∧ CodesRow w' w.heap.size a len:=by
  by_cases hl : m < len
  · have HK:=Lib.hid (codes_of_row h m cap (by omega) (by omega))
    rcases h with ⟨_, h, _, _⟩ | ⟨x, rfl, hlc, hcm, hz, _, _⟩
    · omega
    · have hcap : (m : Int) ≤ (cap : Int):=by omega
      have hi : (m : Int) < (len : Int):=by omega
      have hm0 : (0 : Int) ≤ (m : Int):=by omega
      have HL : Hid (m < len):=hl
      clear hz
      go_enter Try.func7, Try.ntmps7
      go_wp2
      go_ret
      exact ⟨rfl, (Below.refl _ _).alloc (Nat.le_refl _) _, HK.out, ⟨_, _, by rw [World.cell?_alloc_new];rfl, fun _=>by have:=HL.out;omega⟩⟩
  · have hle : len ≤ 4611686018427387904:=by omega
    have HK:=Lib.hid (codes_of_row h len cap (Nat.le_refl _) hle)
    have hi : ¬ ((m : Int) < (len : Int)):=by omega
    clear h
    go_enter Try.func7, Try.ntmps7
    go_wp2
    go_ret
    refine ⟨rfl, (Below.refl _ _).alloc (Nat.le_refl _) _, HK.out, ⟨len, cap, ?_, fun h0=>h0⟩⟩
    rw [World.cell?_alloc_new]
    rfl
theorem row_below {w w1 : World} {x : Option Addr} {len cap : Nat} {zs : List Int} (hr : IsRow .u8 w x len cap zs) (hb : Below w.heap.size w w1) : IsRow .u8 w1 x len cap zs:=by
  rcases hr with h | ⟨b, hb1, hb2, hb3, hb4, hb5, hb6⟩
  · exact .inl h
  · refine .inr ⟨b, hb1, hb2, hb3, hb4, fun j hj=>?_, hb6⟩
    have hc:=hb5 j hj
    rw [hb.cell (World.block_lt_of_cell? w _ hc)]
    exact hc
end Go.Proofs.Ytooaldglgkjjgaa
/- objects in memory, and what a walk keeps of them -/
namespace Go.Proofs.Ytooaldglgkjjgaa
open Go.RowKit
set_option maxRecDepth 20000

/-- an object: a block of cells -/
structure Ob where
 b : Nat
 t : TypeId
 cs : List Value
def Ob.In (o : Ob) (W : World) : Prop:=W.heap[o.b]? = some (.cells o.cs.toArray o.t (0, 0))
theorem Ob.In.lt {o : Ob} {W : World} (h : o.In W) : o.b < W.heap.size:=(Array.getElem?_eq_some_iff.1 h).1
theorem Ob.In.below {o : Ob} {W W' : World} {B : Nat} (h : o.In W) (hb : Below B W W') (hB : o.b < B) : o.In W':=(hb.block _ hB).trans h
theorem Ob.In.calls {o : Ob} {W W' : World} (h : o.In W) (hb : Below W.heap.size W W') : o.In W':=h.below hb h.lt
theorem Ob.In.besides {o : Ob} {W W' : World} {C : Nat} (h : o.In W) (hb : Besides C W W') (hC : o.b ≠ C) : o.In W':=(hb.block _ h.lt hC).trans h
theorem Ob.In.cell {o : Ob} {W : World} (h : o.In W) (k : Nat) : W.cell? ⟨o.b, k, none⟩ = o.cs[k]?:=by
 rw [cell_of_row W o.b k _ _ _ h, List.getElem?_toArray]
theorem Ob.In.at {o : Ob} {W : World} (h : o.In W) (k : Nat) {v : Value} (hv : o.cs[k]? = some v) : W.cell? ⟨o.b, k, none⟩ = some v:=(h.cell k).trans hv
theorem Ob.In.frozen {o : Ob} {W : World} (h : o.In W) (k : Nat) : W.frozen? ⟨o.b, k, none⟩ = false:=frozen_of_row _ _ _ _ _ h
theorem Ob.In.range {o : Ob} {W : World} (h : o.In W) (k : Nat) (vs : List Value) (hv : ∀ j v, vs[j]? = some v → o.cs[k + j]? = some v) : W.rangeAt o.b k vs:=fun j v e=>by
 rw [h.cell, hv j v e]
theorem Ob.In.whole {o : Ob} {W : World} (h : o.In W) : W.rangeAt o.b 0 o.cs:=h.range 0 _ (fun j v e=>by rw [Nat.zero_add];exact e)
theorem Ob.In.there {o : Ob} {W : World} (h : o.In W) (k n : Nat) (hn : k + n ≤ o.cs.length) : W.there o.b k n:=fun j hj=>by
 rw [h.cell, h.frozen, List.getElem?_eq_getElem (by omega)]
 exact ⟨rfl, rfl⟩
theorem Ob.In.set {o : Ob} {W : World} (h : o.In W) (k : Nat) (v : Value) : Ob.In ⟨o.b, o.t, o.cs.set k v⟩ (W.setCell ⟨o.b, k, none⟩ v):=by
 have:=heap_setCell_same W o.b k _ _ v h
 rw [List.setIfInBounds_toArray] at this
 exact this
theorem Ob.In.drew {o : Ob} {W : World} (h : o.In W) : o.In W.drew:=h

/-- what was there is as it was, and these objects lie in new memory -/
structure Fr (w : World) (L : List Ob) (W : World) : Prop where
 old : Below w.heap.size w W
 obs : ∀ o ∈ L, o.In W
 new : ∀ o ∈ L, w.heap.size ≤ o.b
 nd : L.Pairwise fun o o'=>o.b ≠ o'.b
theorem Fr.start (w : World) : Fr w [] w:=⟨Below.refl _ _, by simp, by simp, .nil⟩
theorem Fr.at {w W : World} {L : List Ob} (h : Fr w L W) (i : Nat) {o : Ob} (e : L[i]? = some o) : o.In W:=h.obs _ (List.mem_of_getElem? e)
theorem Fr.get {w W : World} {L : List Ob} (h : Fr w L W) (i : Nat) {b : Nat} {t : TypeId} {cs : List Value} (e : L[i]? = some ⟨b, t, cs⟩) : W.heap[b]? = some (.cells cs.toArray t (0, 0)):=h.at i e
theorem Fr.drew {w W : World} {L : List Ob} (h : Fr w L W) : Fr w L W.drew:=⟨h.old.drew, h.obs, h.new, h.nd⟩
theorem Fr.drewN {w W : World} {L : List Ob} (h : Fr w L W) (q : Nat) : Fr w L (W.drewN q):=⟨⟨h.old.os, h.old.tape, h.old.output, h.old.size, h.old.block⟩, h.obs, h.new, h.nd⟩
theorem Fr.calls {w W W' : World} {L : List Ob} (h : Fr w L W) (hb : Below W.heap.size W W') : Fr w L W' :=
 ⟨h.old.trans (hb.mono h.old.size), fun o ho=>(h.obs o ho).calls hb, h.new, h.nd⟩
theorem Fr.besides {w W W' : World} {L : List Ob} {C : Nat} (h : Fr w L W) (hb : Besides C W W') (hw : w.heap.size ≤ C) (hC : ∀ o ∈ L, o.b ≠ C) : Fr w L W' :=
 ⟨h.old.trans (hb.below hw h.old.size), fun o ho=>(h.obs o ho).besides hb (hC o ho), h.new, h.nd⟩
theorem Fr.put {w W : World} {L : List Ob} (h : Fr w L W) (t : TypeId) (cs : List Value) : Fr w (L ++ [⟨W.heap.size, t, cs⟩]) (W.alloc (.cells cs.toArray t)):=by
 refine ⟨h.old.trans (((Below.refl _ _).alloc (Nat.le_refl _) _).mono h.old.size), fun o ho=>?_, fun o ho=>?_, ?_⟩
 ·rcases List.mem_append.1 ho with ho | ho
  ·exact (h.obs o ho).calls ((Below.refl _ _).alloc (Nat.le_refl _) _)
  ·obtain rfl:=List.mem_singleton.1 ho
   exact heap_alloc_last W _
 ·rcases List.mem_append.1 ho with ho | ho
  ·exact h.new o ho
  ·obtain rfl:=List.mem_singleton.1 ho
   exact h.old.size
 ·rw [List.pairwise_append]
  refine ⟨h.nd, List.pairwise_singleton _ _, fun a ha b hb=>?_⟩
  obtain rfl:=List.mem_singleton.1 hb
  have:=(h.obs a ha).lt
  show a.b ≠ W.heap.size
  omega
theorem pair_ne {L : List Ob} (hn : L.Pairwise fun o o'=>o.b ≠ o'.b) : ∀ (i j : Nat) (x y : Ob), L[i]? = some x → L[j]? = some y → i ≠ j → x.b ≠ y.b:=by
 induction L with
 | nil=>intro i j x y hx;simp at hx
 | cons z l ih =>
  rw [List.pairwise_cons] at hn
  intro i j x y hx hy hij
  cases i with
  | zero =>
   cases j with
   | zero=>exact absurd rfl hij
   | succ j =>
    obtain rfl : z = x:=by simpa using hx
    exact hn.1 y (List.mem_of_getElem? (by simpa using hy))
  | succ i =>
   cases j with
   | zero =>
    obtain rfl : z = y:=by simpa using hy
    exact fun e=>hn.1 x (List.mem_of_getElem? (by simpa using hx)) e.symm
   | succ j=>exact ih hn.2 i j x y (by simpa using hx) (by simpa using hy) (by omega)
theorem Fr.ne {w W : World} {L : List Ob} (h : Fr w L W) (i j : Nat) {b c : Nat} {t u : TypeId} {x y : List Value} (ei : L[i]? = some ⟨b, t, x⟩) (ej : L[j]? = some ⟨c, u, y⟩) (hij : i ≠ j) : b ≠ c:=pair_ne h.nd i j _ _ ei ej hij
theorem pair_set {L : List Ob} {i : Nat} {o : Ob} (hn : L.Pairwise fun o o'=>o.b ≠ o'.b) (e : L[i]? = some o) (o' : Ob) (hb : o'.b = o.b) : (L.set i o').Pairwise fun o o'=>o.b ≠ o'.b:=by
 induction L generalizing i with
 | nil=>simp at e
 | cons x l ih =>
  rw [List.pairwise_cons] at hn
  cases i with
  | zero =>
   obtain rfl : x = o:=by simpa using e
   rw [List.set_cons_zero, List.pairwise_cons]
   exact ⟨fun y hy=>by rw [hb];exact hn.1 y hy, hn.2⟩
  | succ i =>
   have e' : l[i]? = some o:=by simpa using e
   rw [List.set_cons_succ, List.pairwise_cons]
   refine ⟨fun y hy=>?_, ih hn.2 e'⟩
   rcases List.mem_or_eq_of_mem_set hy with hy | rfl
   ·exact hn.1 y hy
   ·rw [hb];exact hn.1 o (List.mem_of_getElem? e')
theorem other_of {L : List Ob} {i : Nat} {o x : Ob} (hn : L.Pairwise fun o o'=>o.b ≠ o'.b) (e : L[i]? = some o) (o' : Ob) (hx : x ∈ L.set i o') : x = o' ∨ (x ∈ L ∧ x.b ≠ o.b):=by
 induction L generalizing i with
 | nil=>simp at e
 | cons y l ih =>
  rw [List.pairwise_cons] at hn
  cases i with
  | zero =>
   obtain rfl : y = o:=by simpa using e
   rw [List.set_cons_zero] at hx
   rcases List.mem_cons.1 hx with rfl | hx
   ·exact .inl rfl
   ·exact .inr ⟨List.mem_cons_of_mem _ hx, fun e=>hn.1 x hx e.symm⟩
  | succ i =>
   have e' : l[i]? = some o:=by simpa using e
   rw [List.set_cons_succ] at hx
   rcases List.mem_cons.1 hx with rfl | hx
   ·exact .inr ⟨List.mem_cons_self .., hn.1 o (List.mem_of_getElem? e')⟩
   ·rcases ih hn.2 e' hx with h | h
    ·exact .inl h
    ·exact .inr ⟨List.mem_cons_of_mem _ h.1, h.2⟩
/-- an object turned, the others as they were -/
theorem Fr.turn {w W W' : World} {L : List Ob} (h : Fr w L W) (i : Nat) {o : Ob} (e : L[i]? = some o) (cs : List Value) (hn : Ob.In ⟨o.b, o.t, cs⟩ W') (ho : ∀ k, k ≠ o.b → W'.heap[k]? = W.heap[k]?) (hos : W'.os = W.os) (ht : W'.tape = W.tape) (hout : W'.output = W.output) (hs : W.heap.size ≤ W'.heap.size) :
  Fr w (L.set i ⟨o.b, o.t, cs⟩) W':=by
 have hm:=List.mem_of_getElem? e
 refine ⟨⟨hos.trans h.old.os, ht.trans h.old.tape, hout.trans h.old.output, Nat.le_trans h.old.size hs, fun k hk=>(ho k (by have:=h.new o hm;omega)).trans (h.old.block k hk)⟩, fun x hx=>?_, fun x hx=>?_, pair_set h.nd e _ rfl⟩
 ·rcases other_of h.nd e _ hx with rfl | ⟨hx, hb⟩
  ·exact hn
  ·exact (ho x.b hb).trans (h.obs x hx)
 ·rcases other_of h.nd e _ hx with rfl | ⟨hx, hb⟩
  ·exact h.new o hm
  ·exact h.new x hx
theorem Fr.set {w W : World} {L : List Ob} (h : Fr w L W) (i : Nat) {o : Ob} (e : L[i]? = some o) (k : Nat) (v : Value) : Fr w (L.set i ⟨o.b, o.t, o.cs.set k v⟩) (W.setCell ⟨o.b, k, none⟩ v) :=
 h.turn i e _ ((h.at i e).set k v) (fun j hj=>Below.heap_setCell _ _ _ _ hj) rfl rfl rfl (by simp [World.setCell])
theorem Fr.row {w W : World} {L : List Ob} (h : Fr w L W) (i : Nat) {o : Ob} (e : L[i]? = some o) (cs : List Value) : Fr w (L.set i ⟨o.b, o.t, cs⟩) (W.setRow o.b cs.toArray) :=
 h.turn i e _ (setRow_heap _ _ _ _ _ _ (h.at i e)) (fun j hj=>setRow_other _ _ _ _ hj) rfl rfl rfl (by simp [World.setRow])

/-- the same, and choices at block C -/
structure St (w : World) (C : Nat) (L : List Ob) (W : World) : Prop where
 fr : Fr w L W
 codes : CodesOk W C
 le : w.heap.size ≤ C
 ne : ∀ o ∈ L, o.b ≠ C
theorem St.old {w W : World} {C : Nat} {L : List Ob} (h : St w C L W) : Below w.heap.size w W:=h.fr.old
theorem St.at {w W : World} {C : Nat} {L : List Ob} (h : St w C L W) (i : Nat) {o : Ob} (e : L[i]? = some o) : o.In W:=h.fr.at i e
theorem St.get {w W : World} {C : Nat} {L : List Ob} (h : St w C L W) (i : Nat) {b : Nat} {t : TypeId} {cs : List Value} (e : L[i]? = some ⟨b, t, cs⟩) : W.heap[b]? = some (.cells cs.toArray t (0, 0)):=h.fr.at i e
theorem St.drew {w W : World} {C : Nat} {L : List Ob} (h : St w C L W) : St w C L W.drew:=⟨h.fr.drew, h.codes.drew, h.le, h.ne⟩
theorem St.drewN {w W : World} {C : Nat} {L : List Ob} (h : St w C L W) (q : Nat) : St w C L (W.drewN q):=⟨h.fr.drewN q, h.codes.drewN q, h.le, h.ne⟩
theorem St.calls {w W W' : World} {C : Nat} {L : List Ob} (h : St w C L W) (hb : Below W.heap.size W W') : St w C L W':=⟨h.fr.calls hb, h.codes.below hb h.codes.lt, h.le, h.ne⟩
theorem St.draws {w W W' : World} {C : Nat} {L : List Ob} (h : St w C L W) (hb : Besides C W W') (hc : CodesOk W' C) : St w C L W':=⟨h.fr.besides hb h.le h.ne, hc, h.le, h.ne⟩
theorem St.put {w W : World} {C : Nat} {L : List Ob} (h : St w C L W) (t : TypeId) (cs : List Value) : St w C (L ++ [⟨W.heap.size, t, cs⟩]) (W.alloc (.cells cs.toArray t)) :=
 ⟨h.fr.put t cs, h.codes.below ((Below.refl _ _).alloc (Nat.le_refl _) _) h.codes.lt, h.le, fun o ho=>by
  rcases List.mem_append.1 ho with ho | ho
  ·exact h.ne o ho
  ·obtain rfl:=List.mem_singleton.1 ho
   have:=h.codes.lt
   show W.heap.size ≠ C
   omega⟩
theorem ne_set {L : List Ob} {i : Nat} {o o' : Ob} {C : Nat} (h : ∀ x ∈ L, x.b ≠ C) (e : L[i]? = some o) (hb : o'.b = o.b) : ∀ x ∈ L.set i o', x.b ≠ C:=fun x hx=>by
 rcases List.mem_or_eq_of_mem_set hx with hx | rfl
 ·exact h x hx
 ·rw [hb];exact h o (List.mem_of_getElem? e)
theorem St.set {w W : World} {C : Nat} {L : List Ob} (h : St w C L W) (i : Nat) {o : Ob} (e : L[i]? = some o) (hC : C < o.b) (k : Nat) (v : Value) : St w C (L.set i ⟨o.b, o.t, o.cs.set k v⟩) (W.setCell ⟨o.b, k, none⟩ v) :=
 ⟨h.fr.set i e k v, CodesOk.setOwn h.codes hC k v, h.le, ne_set h.ne e rfl⟩
theorem St.row {w W : World} {C : Nat} {L : List Ob} (h : St w C L W) (i : Nat) {o : Ob} (e : L[i]? = some o) (hC : C < o.b) (cs : List Value) : St w C (L.set i ⟨o.b, o.t, cs⟩) (W.setRow o.b cs.toArray) :=
 ⟨h.fr.row i e cs, h.codes.below (below_setRow (Below.refl o.b W) (Nat.le_refl _) _) hC, h.le, ne_set h.ne e rfl⟩
/-- the choices begin: behind what was made before -/
theorem St.begin {w W W' : World} {L : List Ob} (h : Fr w L W) (hb : Below W.heap.size W W') (hc : CodesOk W' W.heap.size) : St w W.heap.size L W' :=
 ⟨h.calls hb, hc, h.old.size, fun o ho=>by have:=(h.obs o ho).lt;omega⟩

/-- within a function that is handed choices: all but those is as it was, and these objects are new -/
structure Dr (w : World) (C : Nat) (L : List Ob) (W : World) : Prop where
 bes : Besides C w W
 codes : CodesOk W C
 lt : C < w.heap.size
 obs : ∀ o ∈ L, o.In W
 new : ∀ o ∈ L, w.heap.size ≤ o.b
 nd : L.Pairwise fun o o'=>o.b ≠ o'.b
theorem Dr.start {w : World} {C : Nat} (h : CodesOk w C) : Dr w C [] w:=⟨Besides.refl _ _, h, h.lt, by simp, by simp, .nil⟩
theorem Dr.get {w W : World} {C : Nat} {L : List Ob} (h : Dr w C L W) (i : Nat) {b : Nat} {t : TypeId} {cs : List Value} (e : L[i]? = some ⟨b, t, cs⟩) : W.heap[b]? = some (.cells cs.toArray t (0, 0)):=h.obs _ (List.mem_of_getElem? e)
theorem Dr.at {w W : World} {C : Nat} {L : List Ob} (h : Dr w C L W) (i : Nat) {o : Ob} (e : L[i]? = some o) : o.In W:=h.obs _ (List.mem_of_getElem? e)
theorem Dr.draws {w W W' : World} {C : Nat} {L : List Ob} (h : Dr w C L W) (hb : Besides C W W') (hc : CodesOk W' C) : Dr w C L W' :=
 ⟨h.bes.trans hb, hc, h.lt, fun o ho=>(h.obs o ho).besides hb (by have:=h.new o ho;have:=h.lt;omega), h.new, h.nd⟩
theorem Dr.put {w W : World} {C : Nat} {L : List Ob} (h : Dr w C L W) (t : TypeId) (cs : List Value) : Dr w C (L ++ [⟨W.heap.size, t, cs⟩]) (W.alloc (.cells cs.toArray t)):=by
 refine ⟨h.bes.alloc _, h.codes.below ((Below.refl _ _).alloc (Nat.le_refl _) _) h.codes.lt, h.lt, fun o ho=>?_, fun o ho=>?_, ?_⟩
 ·rcases List.mem_append.1 ho with ho | ho
  ·exact (h.obs o ho).calls ((Below.refl _ _).alloc (Nat.le_refl _) _)
  ·obtain rfl:=List.mem_singleton.1 ho
   exact heap_alloc_last W _
 ·rcases List.mem_append.1 ho with ho | ho
  ·exact h.new o ho
  ·obtain rfl:=List.mem_singleton.1 ho
   exact h.bes.size
 ·rw [List.pairwise_append]
  refine ⟨h.nd, List.pairwise_singleton _ _, fun a ha b hb=>?_⟩
  obtain rfl:=List.mem_singleton.1 hb
  have:=(h.obs a ha).lt
  show a.b ≠ W.heap.size
  omega
theorem Dr.turn {w W W' : World} {C : Nat} {L : List Ob} (h : Dr w C L W) (i : Nat) {o : Ob} (e : L[i]? = some o) (cs : List Value) (hn : Ob.In ⟨o.b, o.t, cs⟩ W') (hb : Below o.b W W') (ho : ∀ k, k ≠ o.b → W'.heap[k]? = W.heap[k]?) : Dr w C (L.set i ⟨o.b, o.t, cs⟩) W':=by
 have hm:=List.mem_of_getElem? e
 have hnw:=h.new o hm
 have hlt:=h.lt
 refine ⟨⟨hb.os.trans h.bes.os, hb.tape.trans h.bes.tape, hb.output.trans h.bes.output, Nat.le_trans h.bes.size hb.size, fun k hk hC=>(ho k (by omega)).trans (h.bes.block k hk hC), fun hC=>(World.cell?_of_block (a:=⟨C, 0, none⟩) (ho C (by omega))).trans (h.bes.head hC)⟩, h.codes.below hb (by omega), hlt, fun x hx=>?_, fun x hx=>?_, pair_set h.nd e _ rfl⟩
 ·rcases other_of h.nd e _ hx with rfl | ⟨hx, hb⟩
  ·exact hn
  ·exact (ho x.b hb).trans (h.obs x hx)
 ·rcases other_of h.nd e _ hx with rfl | ⟨hx, hb⟩
  ·exact hnw
  ·exact h.new x hx
theorem Dr.set {w W : World} {C : Nat} {L : List Ob} (h : Dr w C L W) (i : Nat) {o : Ob} (e : L[i]? = some o) (k : Nat) (v : Value) : Dr w C (L.set i ⟨o.b, o.t, o.cs.set k v⟩) (W.setCell ⟨o.b, k, none⟩ v) :=
 h.turn i e _ ((h.at i e).set k v) ((Below.refl _ _).setCell (p:=⟨o.b, k, none⟩) (Nat.le_refl _) v) (fun _ hj=>Below.heap_setCell _ _ _ _ hj)
theorem Dr.row {w W : World} {C : Nat} {L : List Ob} (h : Dr w C L W) (i : Nat) {o : Ob} (e : L[i]? = some o) (cs : List Value) : Dr w C (L.set i ⟨o.b, o.t, cs⟩) (W.setRow o.b cs.toArray) :=
 h.turn i e _ (setRow_heap _ _ _ _ _ _ (h.at i e)) (below_setRow (Below.refl _ _) (Nat.le_refl _) _) (fun _ hj=>setRow_other _ _ _ _ hj)

/-- the operations on whole objects, written out: where another one stands they fail at once -/
theorem wpList_store_ob (t : TypeId) (x : Operand) {y : Operand} {ops : Array Oper} {rest : List Oper} {a : Act} {w : World} {Q : Exit → Act → World → Prop} {ty : TypeId} {pos : String} {aft : Array Edge}
  (b : Nat) (cs zs : List Value) (t0 : TypeId) (hx : a.eval x = .pointer (some ⟨b, 0, none⟩)) (hy : a.eval y = .agg cs.toArray) (hg : w.heap[b]? = some (.cells zs.toArray t0 (0, 0)))
  (hi : (Try.prog.info? t).map (·.size) = some cs.length) (hl : zs.length = cs.length) (h1 : cs.toArray.all (·.oneCell') = true)
  (h : wpList Try.prog ops Q rest a (w.setRow b cs.toArray)) :
  wpList Try.prog ops Q ({ dst:=none, op:=.store t x y, type:=ty, pos:=pos, after:=aft, guard:=none } :: rest) a w :=
 wpList_store_row rfl t x y rfl b cs.toArray hx hy t0 zs.toArray hg (by rw [List.size_toArray];exact hi) (by rw [List.size_toArray, List.size_toArray];exact hl) h1 h
theorem wpList_load_ob (t : TypeId) (x : Operand) {ops : Array Oper} {rest : List Oper} {a : Act} {w : World} {Q : Exit → Act → World → Prop} {d : Option Tmp} {ty : TypeId} {pos : String} {aft : Array Edge}
  (b : Nat) (cs : List Value) (t0 : TypeId) {ds : TypeDesc} (hu : Try.prog.underlying t = some ds) (hx : a.eval x = .pointer (some ⟨b, 0, none⟩)) (hg : w.heap[b]? = some (.cells cs.toArray t0 (0, 0)))
  (hd : ds.isRow = true) (hi : (Try.prog.info? t).map (·.size) = some cs.length)
  (h : wpList Try.prog ops Q rest (a.put d (.agg cs.toArray)) w) :
  wpList Try.prog ops Q ({ dst:=d, op:=.load t x, type:=ty, pos:=pos, after:=aft, guard:=none } :: rest) a w :=
 wpList_load_row rfl t x rfl b hx t0 cs.toArray (0, 0) ds hg hu (by cases ds <;> simp_all) (by rw [List.size_toArray];exact hi) h
theorem wpList_load_row_g {ops : Array Oper} {rest : List Oper} {o : Oper} {a : Act} {w : World} {Q : Exit → Act → World → Prop} (hw : Region.wanted o (yielded ops a.tmps) = true) (ty : TypeId) (x : Operand) (ho : o.op = .load ty x)
  (g : Nat) (hx : a.eval x = .pointer (some ⟨g, 0, none⟩)) (t : TypeId) (cs : Array Value) (fr : Nat × Nat) (d : TypeDesc) (hg : w.heap[g]? = some (.cells cs t fr))
  (hu : Try.prog.underlying ty = some d) (hd : d.isRow = true) (hi : (Try.prog.info? ty).map (·.size) = some cs.size)
  (h : wpList Try.prog ops Q rest (a.put o.dst (.agg cs)) w) : wpList Try.prog ops Q (o :: rest) a w :=
 wpList_step fun K hK=>by
  rw [if_pos hw]
  exact wp_load_row ty x ho g hx t cs fr d hg hu (by cases d <;> simp_all) hi (hK _ _ h)
theorem wpList_load_ob_w (t : TypeId) (x : Operand) {ops : Array Oper} {rest : List Oper} {a : Act} {w : World} {Q : Exit → Act → World → Prop} {d : Option Tmp} {ty : TypeId} {pos : String} {aft : Array Edge} {gd : Nat × Bool}
  (b : Nat) (cs : List Value) (t0 : TypeId) {ds : TypeDesc} (hu : Try.prog.underlying t = some ds) (hw : Region.wanted { dst:=d, op:=.load t x, type:=ty, pos:=pos, after:=aft, guard:=some gd } (yielded ops a.tmps) = true) (hx : a.eval x = .pointer (some ⟨b, 0, none⟩)) (hg : w.heap[b]? = some (.cells cs.toArray t0 (0, 0)))
  (hd : ds.isRow = true) (hi : (Try.prog.info? t).map (·.size) = some cs.length)
  (h : wpList Try.prog ops Q rest (a.put d (.agg cs.toArray)) w) :
  wpList Try.prog ops Q ({ dst:=d, op:=.load t x, type:=ty, pos:=pos, after:=aft, guard:=some gd } :: rest) a w :=
 wpList_load_row_g hw t x rfl b hx t0 cs.toArray (0, 0) ds hg hu hd (by rw [List.size_toArray];exact hi) h
theorem wpList_load_at (t : TypeId) (x : Operand) {ops : Array Oper} {rest : List Oper} {a : Act} {w : World} {Q : Exit → Act → World → Prop} {d : Option Tmp} {ty : TypeId} {pos : String} {aft : Array Edge}
  (b o : Nat) (cs : List Value) {ds : TypeDesc} (hu : Try.prog.underlying t = some ds) (hx : a.eval x = .pointer (some ⟨b, o, none⟩)) (hg : w.rangeAt b o cs)
  (hd : ds.isRow = true) (hi : (Try.prog.info? t).map (·.size) = some cs.length)
  (h : wpList Try.prog ops Q rest (a.put d (.agg cs.toArray)) w) :
  wpList Try.prog ops Q ({ dst:=d, op:=.load t x, type:=ty, pos:=pos, after:=aft, guard:=none } :: rest) a w :=
 wpList_load_mid rfl t x rfl b o hx cs ds hg hu hd hi h
/-- an object and a word, as the results -/
theorem results_ob_tmp {fn : Func} {p u : Tmp} {t : TypeId} (h : fn.results = #[.cell p t, .tmp u]) (tmps : Array Value) (w : World) (g : Nat) (cs : List Value) (t0 : TypeId) (ds : TypeDesc)
  (hp : tmps.getD p undef = .pointer (some ⟨g, 0, none⟩)) (hg : w.heap[g]? = some (.cells cs.toArray t0 (0, 0))) (hu : Try.prog.underlying t = some ds) (hd : ds.isRow = true) (hi : (Try.prog.info? t).map (·.size) = some cs.length) :
  (results fn tmps).run Try.prog w = .ok (.tuple #[.agg cs.toArray, tmps.getD u undef]) w:=by
 rw [results_cell_tmp h, hp]
 simp [asAddr, run_loadVar_row w g t0 t cs.toArray (0, 0) ds hg hu (by cases ds <;> simp_all) (by rw [List.size_toArray];exact hi), Result.andThen]
theorem results_ob {fn : Func} {p : Tmp} {t : TypeId} (h : fn.results = #[.cell p t]) (tmps : Array Value) (w : World) (g : Nat) (cs : List Value) (t0 : TypeId) (ds : TypeDesc)
  (hp : tmps.getD p undef = .pointer (some ⟨g, 0, none⟩)) (hg : w.heap[g]? = some (.cells cs.toArray t0 (0, 0))) (hu : Try.prog.underlying t = some ds) (hd : ds.isRow = true) (hi : (Try.prog.info? t).map (·.size) = some cs.length) :
  (results fn tmps).run Try.prog w = .ok (.agg cs.toArray) w :=
 results_cell_row h tmps w g t0 cs.toArray (0, 0) ds hp hg hu (by cases ds <;> simp_all) (by rw [List.size_toArray];exact hi)
/-- an object is made -/
theorem wp_alloc_ob {o : Oper} {a : Act} {w : World} {K : Act → World → Prop} {Q : Exit → Act → World → Prop} (t : TypeId) (cs : List Value) (ho : o.op = .alloc t)
  (hr : ∀ W, Sem.run Try.prog (Instr.alloc t true (.tuple #[])) W = .ok (.pointer (some ⟨W.heap.size, 0, none⟩)) (W.alloc (.cells cs.toArray t)))
  (h : K (a.put o.dst (.pointer (some ⟨w.heap.size, 0, none⟩))) (w.alloc (.cells cs.toArray t))) : o.wp Try.prog a w K Q:=by
 unfold Oper.wp execOp
 simp only [ho, Sem.run_bind, hr w, Result.andThen_ok, Sem.run_pure]
 exact h
theorem wpList_alloc_ob (t : TypeId) (cs : List Value) {ops : Array Oper} {rest : List Oper} {a : Act} {w : World} {Q : Exit → Act → World → Prop} {d : Option Tmp} {ty : TypeId} {pos : String} {aft : Array Edge}
  (hr : ∀ W, Sem.run Try.prog (Instr.alloc t true (.tuple #[])) W = .ok (.pointer (some ⟨W.heap.size, 0, none⟩)) (W.alloc (.cells cs.toArray t)))
  (h : wpList Try.prog ops Q rest (a.put d (.pointer (some ⟨w.heap.size, 0, none⟩))) (w.alloc (.cells cs.toArray t))) :
  wpList Try.prog ops Q ({ dst:=d, op:=.alloc t, type:=ty, pos:=pos, after:=aft, guard:=none } :: rest) a w :=
 wpList_plain rfl fun _ hK=>by
  unfold Oper.wp execOp
  have:=hr w
  simp only [Sem.run_bind, this, Result.andThen_ok, Sem.run_pure]
  exact hK _ _ h
theorem wp_store_ob {o : Oper} {a : Act} {w : World} {K : Act → World → Prop} {Q : Exit → Act → World → Prop} (t : TypeId) (x y : Operand) (b : Nat) (cs zs : List Value) (t0 : TypeId) (ho : o.op = .store t x y) (hd : o.dst = none) (hx : a.eval x = .pointer (some ⟨b, 0, none⟩)) (hy : a.eval y = .agg cs.toArray) (hg : w.heap[b]? = some (.cells zs.toArray t0 (0, 0)))
  (hi : (Try.prog.info? t).map (·.size) = some cs.length) (hl : zs.length = cs.length) (h1 : cs.toArray.all (·.oneCell') = true)
  (h : K a (w.setRow b cs.toArray)) : o.wp Try.prog a w K Q :=
 wp_store_row t x y ho b cs.toArray hx hy t0 zs.toArray hg (by rw [List.size_toArray];exact hi) (by rw [List.size_toArray, List.size_toArray];exact hl) h1 (by rw [hd];exact h)
/-- these objects lie there -/
def Obs (L : List Ob) (W : World) : Prop:=∀ o ∈ L, o.In W
theorem Obs.whole {L : List Ob} {W : World} (h : Obs L W) (i : Nat) {b : Nat} {t : TypeId} {cs : List Value} (e : L[i]? = some ⟨b, t, cs⟩) : W.rangeAt b 0 cs:=(h _ (List.mem_of_getElem? e)).whole
theorem Obs.get {L : List Ob} {W : World} (h : Obs L W) (i : Nat) {b : Nat} {t : TypeId} {cs : List Value} (e : L[i]? = some ⟨b, t, cs⟩) : W.heap[b]? = some (.cells cs.toArray t (0, 0)):=h _ (List.mem_of_getElem? e)
theorem Obs.at {L : List Ob} {W : World} (h : Obs L W) (i k : Nat) {b : Nat} {t : TypeId} {cs : List Value} {v : Value} (e : L[i]? = some ⟨b, t, cs⟩) (hv : cs[k]? = some v) : W.cell? ⟨b, k, none⟩ = some v:=(h _ (List.mem_of_getElem? e)).at k hv
theorem Fr.all {w W : World} {L : List Ob} (h : Fr w L W) : Obs L W:=h.obs
theorem St.all {w W : World} {C : Nat} {L : List Ob} (h : St w C L W) : Obs L W:=h.fr.obs
/-- a value is built -/
theorem wpList_build_v (t : TypeId) {ps : Array (Nat × Operand)} {ops : Array Oper} {rest : List Oper} {a : Act} {w : World} {Q : Exit → Act → World → Prop} {d : Option Tmp} {ty : TypeId} {pos : String} {aft : Array Edge}
  (v : Value) (hb : ∀ W, Sem.run Try.prog (Instr.build t (ps.map fun x=>(x.1, a.eval x.2))) W = .ok v W)
  (h : wpList Try.prog ops Q rest (a.put d v) w) :
  wpList Try.prog ops Q ({ dst:=d, op:=.build t ps, type:=ty, pos:=pos, after:=aft, guard:=none } :: rest) a w :=
 wpList_plain rfl fun K hK=>by
  unfold Oper.wp execOp
  have:=hb w
  simp only [Sem.run_bind, this, Result.andThen_ok, Sem.run_pure]
  exact hK _ _ h
/-- two values of one type are compared by their words -/
noncomputable def sameV {α : Type} (a b : α) : Bool:=@decide (a = b) (Classical.propDecidable _)
theorem sameV_iff {α : Type} {a b : α} : sameV a b = true ↔ a = b:=by unfold sameV;exact @decide_eq_true_iff (a = b) (Classical.propDecidable _)
theorem equal_lits {α : Type} (t : TypeId) (a b : α) (x y : List Value) (la lb : List Lit) (hd : Try.prog.keyTypeAt 4 t = true) (fx : (Value.agg x.toArray).formed Try.prog t = true) (fy : (Value.agg y.toArray).formed Try.prog t = true) (lx : Try.prog.keyLits 4 t x = some la) (ly : Try.prog.keyLits 4 t y = some lb) (hi : la = lb ↔ a = b) (w : World) :
  Sem.run Try.prog (Op.equal t (.agg x.toArray) (.agg y.toArray)) w = .ok (sameV a b) w:=by
 obtain ⟨r, hr, hiff⟩:=run_equalIn_deep (P:=Try.prog) 9996 4 t hd w 4 4 (.agg x.toArray) (.agg y.toArray) la lb fx fy lx ly
 have e : sameV a b = r:=by rw [Bool.eq_iff_iff, hiff, sameV_iff];exact hi.symm
 rw [e]
 exact hr
theorem run_eql {α : Type} {t : TypeId} {a b : α} {x y : List Value} (h : ∀ w, Sem.run Try.prog (Op.equal t (.agg x.toArray) (.agg y.toArray)) w = .ok (sameV a b) w) (w : World) :
  Sem.run Try.prog (binOp .eql t (.agg x.toArray) (.agg y.toArray)) w = .ok (.bool (sameV a b)) w:=by
 simp only [binOp, Sem.run_bind, h, Result.andThen_ok, Sem.run_pure]
theorem run_neq {α : Type} {t : TypeId} {a b : α} {x y : List Value} (h : ∀ w, Sem.run Try.prog (Op.equal t (.agg x.toArray) (.agg y.toArray)) w = .ok (sameV a b) w) (w : World) :
  Sem.run Try.prog (binOp .neq t (.agg x.toArray) (.agg y.toArray)) w = .ok (.bool (!sameV a b)) w:=by
 simp only [binOp, Sem.run_bind, h, Result.andThen_ok, Sem.run_pure]
end Go.Proofs.Ytooaldglgkjjgaa
/- what a walk keeps of memory: objects, slices of its own, choices; what was there is as it was -/
namespace Go.Proofs.Ytooaldglgkjjgaa
open Go.RowKit
set_option maxRecDepth 20000

/-- cells that are read: a block, a place in it, what lies there -/
abbrev Rng:=Nat × Nat × List Value
def RdIn (W : World) (R : List Rng) : Prop:=∀ r ∈ R, r.1 < W.heap.size ∧ W.rangeAt r.1 r.2.1 r.2.2
theorem RdIn.keep {W W' : World} {R : List Rng} (h : RdIn W R) (hs : W.heap.size ≤ W'.heap.size) (hk : ∀ b ∈ R.map (·.1), W'.heap[b]? = W.heap[b]?) : RdIn W' R:=fun r hr=>by
 obtain ⟨h1, h2⟩:=h r hr
 refine ⟨Nat.lt_of_lt_of_le h1 hs, fun j u hu=>?_⟩
 rw [World.cell?_of_block (a:=⟨r.1, r.2.1 + j, none⟩) (hk r.1 (List.mem_map.2 ⟨r, hr, rfl⟩))]
 exact h2 j u hu
theorem RdIn.lt {W : World} {R : List Rng} (h : RdIn W R) {b : Nat} (hb : b ∈ R.map (·.1)) : b < W.heap.size:=by
 obtain ⟨r, hr, rfl⟩:=List.mem_map.1 hb
 exact (h r hr).1
theorem RdIn.below {W W' : World} {R : List Rng} (h : RdIn W R) (hb : Below W.heap.size W W') : RdIn W' R:=h.keep hb.size (fun b hb'=>hb.block b (h.lt hb'))
theorem RdIn.sub {W : World} {R S : List Rng} (h : RdIn W R) (hs : ∀ r ∈ S, r ∈ R) : RdIn W S:=fun r hr=>h r (hs r hr)
theorem RdIn.append {W : World} {R S : List Rng} (h : RdIn W R) (k : RdIn W S) : RdIn W (R ++ S):=fun r hr=>(List.mem_append.1 hr).elim (h r) (k r)
theorem RdIn.nil (W : World) : RdIn W []:=fun r hr=>by cases hr
/-- a thing in new memory: an object; a slice of the walk's own; choices; and cells that are read, wherever they are -/
inductive Th where
 | ob (b : Nat) (t : TypeId) (cs : List Value)
 | sl (v : Value) (e : TypeId) (z n : Nat) (xs : List Value)
 | cd (C : Nat)
 | rd (R : List Rng)
/-- its block -/
def Th.blk : Th → Option Nat
 | .ob b _ _=>some b
 | .sl v _ _ _ _=>v.ownBlock
 | .cd C=>some C
 | .rd _=>none
/-- the blocks that it reads -/
def Th.reads : Th → List Nat
 | .rd R=>R.map (·.1)
 | _=>[]
/-- it lies in W, in memory from B on -/
def Th.In (B : Nat) (W : World) : Th → Prop
 | .ob b t cs=>B ≤ b ∧ W.heap[b]? = some (.cells cs.toArray t (0, 0))
 | .sl v e z n xs=>W.ownsRow B e z v n xs
 | .cd C=>B ≤ C ∧ CodesOk W C ∧ ∃ a len cap, W.cell? ⟨C, 0, none⟩ = some (.slice a len cap) ∧ (0 < len → ∀ b off, a = some ⟨b, off, none⟩ → b < B)
 | .rd R=>RdIn W R
def Th.Apart (x y : Th) : Prop:=(∀ b, x.blk = some b → y.blk ≠ some b ∧ b ∉ y.reads) ∧ (∀ b, y.blk = some b → b ∉ x.reads)
theorem Th.In.from {B : Nat} {W : World} {x : Th} (h : x.In B W) {b : Nat} (hb : x.blk = some b) : B ≤ b ∧ b < W.heap.size:=by
 cases x with
 | ob c t cs =>
  obtain rfl : c = b:=Option.some.inj hb
  exact ⟨h.1, (Array.getElem?_eq_some_iff.1 h.2).1⟩
 | sl v e z n xs=>exact World.ownsRow.lt h b hb
 | cd C =>
  obtain rfl : C = b:=Option.some.inj hb
  exact ⟨h.1, h.2.1.lt⟩
 | rd R=>cases hb
theorem Th.In.reads_lt {B : Nat} {W : World} {x : Th} (h : x.In B W) {b : Nat} (hb : b ∈ x.reads) : b < W.heap.size:=by
 cases x with
 | rd R=>exact RdIn.lt h hb
 | _=>cases hb
theorem codes_keep {w w' : World} {C B : Nat} (h : Th.In B w (.cd C)) (hs : w.heap.size ≤ w'.heap.size) (hC : w'.heap[C]? = w.heap[C]?) (ho : ∀ k, k < B → w'.heap[k]? = w.heap[k]?) : Th.In B w' (.cd C):=by
 obtain ⟨hB, ⟨a, len, cap, i, h0, h1, h2, h3, h4, h5, h6, h7⟩, a', len', cap', h8, h9⟩:=h
 have cell : ∀ j, w'.cell? ⟨C, j, none⟩ = w.cell? ⟨C, j, none⟩:=fun j=>World.cell?_of_block (a:=⟨C, j, none⟩) hC
 have e:=h1.symm.trans h8
 simp only [Option.some.injEq, Value.slice.injEq] at e
 obtain ⟨rfl, rfl, rfl⟩:=e
 refine ⟨hB, ⟨a, len, cap, i, by omega, by rw [cell 0];exact h1, by rw [cell 1];exact h2, by rw [World.frozen?_of_block (a:=⟨C, 1, none⟩) hC];exact h3, h4, h5, h6, fun hl=>?_⟩, a, len, cap, by rw [cell 0];exact h8, h9⟩
 obtain ⟨b, off, ha, hbC, hz⟩:=h7 hl
 have hb:=h9 hl b off ha
 exact ⟨b, off, ha, hbC, fun j hj=>by rw [World.cell?_of_block (a:=⟨b, off + j, none⟩) (ho b hb)];exact hz j hj⟩
theorem Th.In.keep {B : Nat} {W W' : World} {x : Th} (h : x.In B W) (hs : W.heap.size ≤ W'.heap.size) (hx : ∀ b, x.blk = some b → W'.heap[b]? = W.heap[b]?) (ho : ∀ k, k < B → W'.heap[k]? = W.heap[k]?) (hr : ∀ b ∈ x.reads, W'.heap[b]? = W.heap[b]?) : x.In B W':=by
 cases x with
 | ob c t cs=>exact ⟨h.1, (hx c rfl).trans h.2⟩
 | sl v e z n xs =>
  refine ⟨h.1, ?_⟩
  rcases h.2 with h0 | ⟨g, cap, cur, hv, hB, hg, hr⟩
  ·exact .inl h0
  ·exact .inr ⟨g, cap, cur, hv, hB, (hx g (by rw [hv];rfl)).trans hg, hr⟩
 | cd C=>exact codes_keep h hs (hx C rfl) ho
 | rd R=>exact RdIn.keep h hs hr
theorem Th.Apart.symm {x y : Th} (h : x.Apart y) : y.Apart x:=⟨fun b hy=>⟨fun hx=>(h.1 b hx).1 hy, h.2 b hy⟩, fun b hx=>(h.1 b hx).2⟩

structure Hp (w : World) (L : List Th) (W : World) : Prop where
 old : Below w.heap.size w W
 all : ∀ x ∈ L, x.In w.heap.size W
 nd : L.Pairwise Th.Apart
theorem Hp.start (w : World) : Hp w [] w:=⟨Below.refl _ _, by simp, .nil⟩
theorem Hp.in {w W : World} {L : List Th} (h : Hp w L W) (i : Nat) {x : Th} (e : L[i]? = some x) : x.In w.heap.size W:=h.all _ (List.mem_of_getElem? e)
theorem Hp.get {w W : World} {L : List Th} (h : Hp w L W) (i : Nat) {b : Nat} {t : TypeId} {cs : List Value} (e : L[i]? = some (.ob b t cs)) : W.heap[b]? = some (.cells cs.toArray t (0, 0)):=(h.in i e).2
theorem Hp.at {w W : World} {L : List Th} (h : Hp w L W) (i : Nat) {b : Nat} {t : TypeId} {cs : List Value} (e : L[i]? = some (.ob b t cs)) (k : Nat) {v : Value} (hv : cs[k]? = some v) : W.cell? ⟨b, k, none⟩ = some v:=by
 rw [cell_of_row W b k _ _ _ (h.get i e), List.getElem?_toArray];exact hv
theorem Hp.frozen {w W : World} {L : List Th} (h : Hp w L W) (i : Nat) {b : Nat} {t : TypeId} {cs : List Value} (e : L[i]? = some (.ob b t cs)) (k : Nat) : W.frozen? ⟨b, k, none⟩ = false:=frozen_of_row _ _ _ _ _ (h.get i e)
theorem Hp.codes {w W : World} {L : List Th} (h : Hp w L W) (i : Nat) {C : Nat} (e : L[i]? = some (.cd C)) : CodesOk W C:=(h.in i e).2.1
theorem Hp.own {w W : World} {L : List Th} (h : Hp w L W) (i : Nat) {v : Value} {t : TypeId} {z n : Nat} {xs : List Value} (e : L[i]? = some (.sl v t z n xs)) : W.ownsRow w.heap.size t z v n xs:=h.in i e
theorem Hp.lt {w W : World} {L : List Th} (h : Hp w L W) (i : Nat) {x : Th} {b : Nat} (e : L[i]? = some x) (hb : x.blk = some b) : w.heap.size ≤ b ∧ b < W.heap.size:=(h.in i e).from hb
theorem apart_at {L : List Th} (hn : L.Pairwise Th.Apart) : ∀ (i j : Nat) (x y : Th), L[i]? = some x → L[j]? = some y → i ≠ j → x.Apart y:=by
 induction L with
 | nil=>intro i j x y hx;simp at hx
 | cons z l ih =>
  rw [List.pairwise_cons] at hn
  intro i j x y hx hy hij
  cases i with
  | zero =>
   cases j with
   | zero=>exact absurd rfl hij
   | succ j =>
    obtain rfl : z = x:=by simpa using hx
    exact hn.1 y (List.mem_of_getElem? (by simpa using hy))
  | succ i =>
   cases j with
   | zero =>
    obtain rfl : z = y:=by simpa using hy
    exact (hn.1 x (List.mem_of_getElem? (by simpa using hx))).symm
   | succ j=>exact ih hn.2 i j x y (by simpa using hx) (by simpa using hy) (by omega)
theorem Hp.ne {w W : World} {L : List Th} (h : Hp w L W) (i j : Nat) {x y : Th} {b c : Nat} (ei : L[i]? = some x) (ej : L[j]? = some y) (hij : i ≠ j) (hb : x.blk = some b) (hc : y.blk = some c) : b ≠ c:=fun e=>by
 subst e
 exact (apart_at h.nd i j x y ei ej hij).1 b hb |>.1 hc
theorem Hp.drew {w W : World} {L : List Th} (h : Hp w L W) : Hp w L W.drew:=⟨h.old.drew, fun x hx=>(h.all x hx).keep (Nat.le_refl _) (fun _ _=>rfl) (fun _ _=>rfl) (fun _ _=>rfl), h.nd⟩
theorem Hp.drewN {w W : World} {L : List Th} (h : Hp w L W) (q : Nat) : Hp w L (W.drewN q):=⟨⟨h.old.os, h.old.tape, h.old.output, h.old.size, h.old.block⟩, fun x hx=>(h.all x hx).keep (Nat.le_refl _) (fun _ _=>rfl) (fun _ _=>rfl) (fun _ _=>rfl), h.nd⟩
theorem Hp.calls {w W W' : World} {L : List Th} (h : Hp w L W) (hb : Below W.heap.size W W') : Hp w L W' :=
 ⟨h.old.trans (hb.mono h.old.size), fun x hx=>(h.all x hx).keep hb.size (fun b e=>hb.block b ((h.all x hx).from e).2) (fun k hk=>hb.block k (Nat.lt_of_lt_of_le hk h.old.size)) (fun b hbr=>hb.block b ((h.all x hx).reads_lt hbr)), h.nd⟩
theorem mem_apart {L : List Th} (hn : L.Pairwise Th.Apart) {x z : Th} (hx : x ∈ L) (hz : z ∈ L) {b : Nat} (hb : x.blk = some b) (hr : b ∈ z.reads) : False:=by
 induction L with
 | nil=>cases hx
 | cons y l ih =>
  rw [List.pairwise_cons] at hn
  rcases List.mem_cons.1 hx with rfl | hx'
  ·rcases List.mem_cons.1 hz with rfl | hz'
   ·cases z <;> first | (cases hb;done) | (cases hr;done) | simp [Th.blk] at hb
   ·exact ((hn.1 z hz').1 b hb).2 hr
  ·rcases List.mem_cons.1 hz with rfl | hz'
   ·exact (hn.1 x hx').2 b hb hr
   ·exact ih hn.2 hx' hz'
theorem Hp.reads_apart {w W : World} {L : List Th} (h : Hp w L W) {x z : Th} (hx : x ∈ L) (hz : z ∈ L) {b : Nat} (hb : x.blk = some b) (hr : b ∈ z.reads) : False:=mem_apart h.nd hx hz hb hr
theorem Hp.add {w W W' : World} {L : List Th} (h : Hp w L W) (hb : Below W.heap.size W W') (y : Th) (hy : y.In w.heap.size W') (hn : ∀ b, y.blk = some b → W.heap.size ≤ b) (hr : ∀ b ∈ y.reads, W.heap.size ≤ b ∨ ∃ z ∈ L, b ∈ z.reads) : Hp w (L ++ [y]) W':=by
 have h':=h.calls hb
 refine ⟨h'.old, fun x hx=>?_, ?_⟩
 ·rcases List.mem_append.1 hx with hx | hx
  ·exact h'.all x hx
  ·obtain rfl:=List.mem_singleton.1 hx
   exact hy
 ·rw [List.pairwise_append]
  refine ⟨h.nd, List.pairwise_singleton _ _, fun a ha b hb=>?_⟩
  obtain rfl:=List.mem_singleton.1 hb
  refine ⟨fun c hac=>⟨fun hbc=>?_, fun hbr=>?_⟩, fun c hbc har=>?_⟩
  ·have h1:=((h.all a ha).from hac).2
   have h2:=hn c hbc
   omega
  ·have h1:=((h.all a ha).from hac).2
   rcases hr c hbr with h2 | ⟨z, hz, hzr⟩
   ·omega
   ·exact h.reads_apart ha hz hac hzr
  ·have h1:=(h.all a ha).reads_lt har
   have h2:=hn c hbc
   omega
/-- an object is made -/
theorem Hp.put {w W : World} {L : List Th} (h : Hp w L W) (t : TypeId) (cs : List Value) : Hp w (L ++ [.ob W.heap.size t cs]) (W.alloc (.cells cs.toArray t)) :=
 h.add ((Below.refl _ _).alloc (Nat.le_refl _) _) (.ob W.heap.size t cs) ⟨h.old.size, heap_alloc_last W _⟩ (fun b e=>by obtain rfl : W.heap.size = b:=Option.some.inj e;exact Nat.le_refl _) (fun b e=>by cases e)
/-- choices begin -/
theorem Hp.begin {w W W' : World} {L : List Th} (h : Hp w L W) (hb : Below W.heap.size W W') (hc : CodesOk W' W.heap.size) (hl : ∃ a len cap, W'.cell? ⟨W.heap.size, 0, none⟩ = some (.slice a len cap) ∧ (0 < len → ∀ b off, a = some ⟨b, off, none⟩ → b < w.heap.size)) : Hp w (L ++ [.cd W.heap.size]) W' :=
 h.add hb (.cd W.heap.size) ⟨h.old.size, hc, hl⟩ (fun b e=>by obtain rfl : W.heap.size = b:=Option.some.inj e;exact Nat.le_refl _) (fun b e=>by cases e)
/-- a slice of its own, nil as yet -/
theorem Hp.nil {w W : World} {L : List Th} (h : Hp w L W) (t : TypeId) (z : Nat) : Hp w (L ++ [.sl (.slice none 0 0) t z 0 []]) W :=
 h.add (Below.refl _ _) _ ⟨by simp, .inl ⟨rfl, rfl⟩⟩ (fun b e=>by cases e) (fun b e=>by cases e)
theorem pair_set' {L : List Th} {i : Nat} {x : Th} (hn : L.Pairwise Th.Apart) (e : L[i]? = some x) (y : Th) (hy : ∀ z ∈ L, z.Apart x → z.Apart y) : (L.set i y).Pairwise Th.Apart:=by
 induction L generalizing i with
 | nil=>simp at e
 | cons z l ih =>
  rw [List.pairwise_cons] at hn
  cases i with
  | zero =>
   obtain rfl : z = x:=by simpa using e
   rw [List.set_cons_zero, List.pairwise_cons]
   exact ⟨fun u hu=>(hy u (List.mem_cons_of_mem _ hu) (hn.1 u hu).symm).symm, hn.2⟩
  | succ i =>
   have e' : l[i]? = some x:=by simpa using e
   rw [List.set_cons_succ, List.pairwise_cons]
   refine ⟨fun u hu=>?_, ih hn.2 e' (fun z hz=>hy z (List.mem_cons_of_mem _ hz))⟩
   rcases List.mem_or_eq_of_mem_set hu with hu | rfl
   ·exact hn.1 u hu
   ·exact hy z (List.mem_cons_self ..) (hn.1 x (List.mem_of_getElem? e'))
theorem other_th {L : List Th} {i : Nat} {x z : Th} (hn : L.Pairwise Th.Apart) (e : L[i]? = some x) (y : Th) (hz : z ∈ L.set i y) : z = y ∨ (z ∈ L ∧ z.Apart x):=by
 induction L generalizing i with
 | nil=>simp at e
 | cons u l ih =>
  rw [List.pairwise_cons] at hn
  cases i with
  | zero =>
   obtain rfl : u = x:=by simpa using e
   rw [List.set_cons_zero] at hz
   rcases List.mem_cons.1 hz with rfl | hz
   ·exact .inl rfl
   ·exact .inr ⟨List.mem_cons_of_mem _ hz, (hn.1 z hz).symm⟩
  | succ i =>
   have e' : l[i]? = some x:=by simpa using e
   rw [List.set_cons_succ] at hz
   rcases List.mem_cons.1 hz with rfl | hz
   ·exact .inr ⟨List.mem_cons_self .., hn.1 x (List.mem_of_getElem? e')⟩
   ·rcases ih hn.2 e' hz with h | h
    ·exact .inl h
    ·exact .inr ⟨List.mem_cons_of_mem _ h.1, h.2⟩
/-- a thing is turned; all that is not its block is as it was -/
theorem Hp.swap {w W W' : World} {L : List Th} (h : Hp w L W) (i : Nat) {x : Th} (e : L[i]? = some x) (y : Th) (hy : y.In w.heap.size W') (hn : ∀ b, y.blk = some b → x.blk = some b ∨ W.heap.size ≤ b) (hyr : y.reads = [])
  (hk : ∀ k, k < W.heap.size → x.blk ≠ some k → W'.heap[k]? = W.heap[k]?) (hos : W'.os = W.os) (ht : W'.tape = W.tape) (hout : W'.output = W.output) (hs : W.heap.size ≤ W'.heap.size) : Hp w (L.set i y) W':=by
 have hx:=h.in i e
 have hold : ∀ k, k < w.heap.size → W'.heap[k]? = W.heap[k]?:=fun k hk'=>hk k (Nat.lt_of_lt_of_le hk' h.old.size) (fun e=>by have:=(hx.from e).1;omega)
 refine ⟨⟨hos.trans h.old.os, ht.trans h.old.tape, hout.trans h.old.output, Nat.le_trans h.old.size hs, fun k hk'=>(hold k hk').trans (h.old.block k hk')⟩, fun z hz=>?_, pair_set' h.nd e y (fun z hz hzx=>?_)⟩
 ·rcases other_th h.nd e y hz with rfl | ⟨hz, hzx⟩
  ·exact hy
  ·exact (h.all z hz).keep hs (fun b hb=>hk b ((h.all z hz).from hb).2 (hzx.1 b hb).1) hold (fun b hb=>hk b ((h.all z hz).reads_lt hb) (fun e=>hzx.2 b e hb))
 ·refine ⟨fun b hzb=>⟨fun hyb=>?_, fun hr=>by rw [hyr] at hr;cases hr⟩, fun b hyb hzr=>?_⟩
  ·rcases hn b hyb with hxb | hge
   ·exact (hzx.1 b hzb).1 hxb
   ·have:=((h.all z hz).from hzb).2
    omega
  ·rcases hn b hyb with hxb | hge
   ·exact hzx.2 b hxb hzr
   ·have:=(h.all z hz).reads_lt hzr
    omega
theorem Hp.draws {w W W' : World} {L : List Th} (h : Hp w L W) (i : Nat) {C : Nat} (e : L[i]? = some (.cd C)) (hb : Besides C W W') (hc : CodesOk W' C) : Hp w (L.set i (.cd C)) W':=by
 obtain ⟨hB, hok, a, len, cap, h8, h9⟩:=h.in i e
 exact h.swap i e (.cd C) ⟨hB, hc, a, len, cap, (hb.head hok.lt).trans h8, h9⟩ (fun b hb=>.inl hb) rfl (fun k hk hne=>hb.block k hk (fun e=>hne (by rw [e];rfl))) hb.os hb.tape hb.output hb.size
theorem Hp.set {w W : World} {L : List Th} (h : Hp w L W) (i : Nat) {b : Nat} {t : TypeId} {cs : List Value} (e : L[i]? = some (.ob b t cs)) (k : Nat) (v : Value) : Hp w (L.set i (.ob b t (cs.set k v))) (W.setCell ⟨b, k, none⟩ v):=by
 refine h.swap i e _ ⟨(h.in i e).1, ?_⟩ (fun b hb=>.inl hb) rfl (fun j hj hne=>Below.heap_setCell _ _ _ _ (fun e=>hne (by rw [e];rfl))) rfl rfl rfl (by simp [World.setCell])
 have:=heap_setCell_same W b k _ _ v (h.get i e)
 rw [List.setIfInBounds_toArray] at this
 exact this
theorem Hp.row {w W : World} {L : List Th} (h : Hp w L W) (i : Nat) {b : Nat} {t : TypeId} {cs : List Value} (e : L[i]? = some (.ob b t cs)) (cs' : List Value) : Hp w (L.set i (.ob b t cs')) (W.setRow b cs'.toArray) :=
 h.swap i e _ ⟨(h.in i e).1, setRow_heap _ _ _ _ _ _ (h.get i e)⟩ (fun b hb=>.inl hb) rfl (fun j hj hne=>setRow_other _ _ _ _ (fun e=>hne (by rw [e];rfl))) rfl rfl rfl (by simp [World.setRow])
/-- a slice of its own has grown -/
theorem Hp.grown {w W W' : World} {L : List Th} (h : Hp w L W) (i : Nat) {v v' : Value} {t : TypeId} {z n m : Nat} {xs ys : List Value} (e : L[i]? = some (.sl v t z n xs)) (ho : W'.ownsRow w.heap.size t z v' m ys) (hg : W.grownBy W' v.ownBlock) (hb : v'.ownBlock = v.ownBlock ∨ v'.ownBlock = some W.heap.size) : Hp w (L.set i (.sl v' t z m ys)) W':=by
 refine h.swap i e _ ho (fun b hb'=>?_) rfl (fun k hk hne=>hg.block k hk (fun e=>hne e.symm)) hg.os hg.tape hg.output hg.size
 have hb'' : v'.ownBlock = some b:=hb'
 rcases hb with hb | hb
 ·exact .inl (hb.symm.trans hb'')
 ·right
  rw [hb] at hb''
  exact Nat.le_of_eq (Option.some.inj hb'')
/-- what is not needed any more -/
theorem Hp.forget {w W : World} {L M : List Th} (h : Hp w (L ++ M) W) : Hp w L W:=⟨h.old, fun x hx=>h.all x (List.mem_append_left _ hx), (List.pairwise_append.1 h.nd).1⟩
/-- some of the things alone -/
def Hold (B : Nat) (L : List Th) (W : World) : Prop:=∀ x ∈ L, x.In B W
theorem Hold.get {B : Nat} {L : List Th} {W : World} (h : Hold B L W) (i : Nat) {b : Nat} {t : TypeId} {cs : List Value} (e : L[i]? = some (.ob b t cs)) : W.heap[b]? = some (.cells cs.toArray t (0, 0)):=(h _ (List.mem_of_getElem? e)).2
theorem Hold.at {B : Nat} {L : List Th} {W : World} (h : Hold B L W) (i : Nat) {b : Nat} {t : TypeId} {cs : List Value} (e : L[i]? = some (.ob b t cs)) (k : Nat) {v : Value} (hv : cs[k]? = some v) : W.cell? ⟨b, k, none⟩ = some v:=by
 rw [cell_of_row W b k _ _ _ (h.get i e), List.getElem?_toArray];exact hv
theorem Hold.whole {B : Nat} {L : List Th} {W : World} (h : Hold B L W) (i : Nat) {b : Nat} {t : TypeId} {cs : List Value} (e : L[i]? = some (.ob b t cs)) : W.rangeAt b 0 cs:=fun j v hv=>by
 rw [Nat.zero_add];exact h.at i e j hv
theorem Hp.pick {w W : World} {L M : List Th} (h : Hp w L W) (is : List Nat) (e : is.map (fun i=>L[i]?) = M.map some) : Hold w.heap.size M W:=fun x hx=>by
 have : some x ∈ M.map some:=List.mem_map.2 ⟨x, hx, rfl⟩
 rw [← e, List.mem_map] at this
 obtain ⟨i, _, hi⟩:=this
 exact h.in i hi
theorem Hp.pull {w W : World} {L M : List Th} (h : Hp w L W) (is : List Nat) (e : is.map (fun i=>L[i]?) = M.map some) (hn : M.Pairwise Th.Apart) : Hp w M W:=⟨h.old, h.pick is e, hn⟩
theorem pull_nd {L M : List Th} (hn : L.Pairwise Th.Apart) (is : List Nat) (e : is.map (fun i=>L[i]?) = M.map some) (hd : is.Pairwise (· ≠ ·)) : M.Pairwise Th.Apart:=by
 induction is generalizing M with
 | nil =>
  cases M with
  | nil=>exact .nil
  | cons m M=>simp at e
 | cons i is ih =>
  cases M with
  | nil=>simp at e
  | cons m M =>
   rw [List.map_cons, List.map_cons, List.cons.injEq] at e
   rw [List.pairwise_cons] at hd ⊢
   refine ⟨fun y hy=>?_, ih e.2 hd.2⟩
   have hy' : some y ∈ is.map (fun i=>L[i]?):=by rw [e.2];exact List.mem_map.2 ⟨y, hy, rfl⟩
   obtain ⟨j, hj, hje⟩:=List.mem_map.1 hy'
   exact apart_at hn i j m y e.1 hje (hd.1 j hj)
/-- part of a slice of its own -/
theorem own_range {B : Nat} {W : World} {t : TypeId} {z n : Nat} {v : Value} {xs : List Value} (h : W.ownsRow B t z v n xs) {g cap : Nat} (hv : v = .slice (some ⟨g, 0, none⟩) n cap) (k : Nat) (cs : List Value) (hc : ∀ j u, cs[j]? = some u → xs[k + j]? = some u) : W.rangeAt g k cs:=fun j u hu=>by
 rcases h.2 with ⟨h0, _⟩ | ⟨g', cap', cur, hv', _, hg, _, _, _, hx⟩
 ·rw [hv] at h0;cases h0
 ·rw [hv] at hv'
  have e : g = g':=by have:=congrArg Value.ownBlock hv';simpa [Value.ownBlock] using this
  subst e
  have hxs:=hc j u hu
  rw [← hx] at hxs
  rw [cell_of_row W g (k + j) _ _ _ hg, ← Array.getElem?_toList]
  rw [List.getElem?_take] at hxs
  split at hxs
  ·exact hxs
  ·cases hxs
/-- what a type of elements is like -/
structure ElemIs (e : TypeId) (z bytes : Nat) : Prop where
 is : ∃ (inf : TypeInfo) (zv : Value), Try.prog.info? e = some inf ∧ inf.zero = some zv ∧ inf.size = z ∧ inf.bytes = bytes ∧ zv.cells.size = z
 pos : 0 < z
 small : z ≤ 65536
 room : bytes ≤ 65536
theorem Hp.append {w W : World} {L : List Th} (h : Hp w L W) (i : Nat) {v : Value} {e : TypeId} {z n : Nat} {xs : List Value} (ei : L[i]? = some (.sl v e z n xs)) (j : Nat) {b : Nat} {t' : TypeId} {ys : List Value} (ej : L[j]? = some (.ob b t' ys))
  (ts : TypeId) (ty : TypeId) {bytes : Nat} (ht : Try.prog.underlying ts = some (.slice e)) (he : ElemIs e z bytes) (m c : Nat) (hl : ys.length = m * z) (h1 : ∀ u ∈ ys, u.oneCell' = true) (hn : n + m ≤ 1048576) :
  ∃ v' W', (Builtin.append_ #[ts, ts] ty #[v, .slice (some ⟨b, 0, none⟩) m c]).run Try.prog W = .ok v' W' ∧ Hp w (L.set i (.sl v' e z (n + m) (xs ++ ys))) W' ∧ (v' = .slice none 0 0 ↔ v = .slice none 0 0 ∧ m = 0):=by
 obtain ⟨inf, zv, hi, hz, hsize, hby, hzs⟩:=he.is
 have hroom:=he.room
 have hcell : ∀ q u, ys[q]? = some u → W.cell? ((⟨b, 0, none⟩ : Addr).add q) = some u:=fun q u hu=>by
  rw [Addr.add_mid, Nat.zero_add]
  exact h.at j ej q hu
 obtain ⟨v', W', hr, h2, h3, h4, h5⟩:=run_append_own_at (P:=Try.prog) W w.heap.size ts ty e inf zv z bytes ht hi hz hsize hby hzs he.pos v n xs (h.own i ei) ⟨b, 0, none⟩ m c ys hl hcell h1 (by unfold maxLen;omega) (by
  have:=Nat.mul_le_mul hn hroom
  omega) h.old.size
 exact ⟨v', W', hr, h.grown i ei h2 h3 h5, h4⟩
theorem wp_append_hp {o : Oper} {a : Act} {w W : World} {K : Act → World → Prop} {Q : Exit → Act → World → Prop} {L : List Th} (h : Hp w L W) (s x : Operand) (ts : TypeId) (ho : o.op = .call { callee:=.builtin .append, args:=#[s, x], argTypes:=#[ts, ts] })
  (i : Nat) {v : Value} {e : TypeId} {z n : Nat} {xs : List Value} (ei : L[i]? = some (.sl v e z n xs)) (j : Nat) {b : Nat} {t' : TypeId} {ys : List Value} (ej : L[j]? = some (.ob b t' ys)) {bytes : Nat} (ht : Try.prog.underlying ts = some (.slice e)) (he : ElemIs e z bytes) (m c : Nat)
  (hs : a.eval s = v) (hx : a.eval x = .slice (some ⟨b, 0, none⟩) m c) (hl : ys.length = m * z) (h1 : ∀ u ∈ ys, u.oneCell' = true) (hn : n + m ≤ 1048576)
  (hk : ∀ v' W', Hp w (L.set i (.sl v' e z (n + m) (xs ++ ys))) W' → (v' = .slice none 0 0 ↔ v = .slice none 0 0 ∧ m = 0) → K (a.put o.dst v') W') : o.wp Try.prog a W K Q:=by
 obtain ⟨v', W', hr, h2, h3⟩:=h.append i ei j ej ts o.type ht he m c hl h1 hn
 unfold Oper.wp execOp
 simp only [ho, resolve, invoke, builtin, Sem.run_bind, Sem.run_pure, Result.andThen_ok, List.map_toArray, List.map_cons, List.map_nil, hs, hx, hr]
 exact hk v' W' h2 h3
theorem wpList_append_hp {ops : Array Oper} {rest : List Oper} {a : Act} {w W : World} {Q : Exit → Act → World → Prop} {d : Option Tmp} {ty : TypeId} {pos : String} {aft : Array Edge} {L : List Th} (h : Hp w L W) (s x : Operand) (ts : TypeId)
  (i : Nat) {v : Value} {e : TypeId} {z n : Nat} {xs : List Value} (ei : L[i]? = some (.sl v e z n xs)) (j : Nat) {b : Nat} {t' : TypeId} {ys : List Value} (ej : L[j]? = some (.ob b t' ys)) {bytes : Nat} (ht : Try.prog.underlying ts = some (.slice e)) (he : ElemIs e z bytes) (m c : Nat)
  (hs : a.eval s = v) (hx : a.eval x = .slice (some ⟨b, 0, none⟩) m c) (hl : ys.length = m * z) (h1 : ∀ u ∈ ys, u.oneCell' = true) (hn : n + m ≤ 1048576)
  (hk : ∀ v' W', Hp w (L.set i (.sl v' e z (n + m) (xs ++ ys))) W' → (v' = .slice none 0 0 ↔ v = .slice none 0 0 ∧ m = 0) → wpList Try.prog ops Q rest (a.put d v') W') :
  wpList Try.prog ops Q ({ dst:=d, op:=.call { callee:=.builtin .append, args:=#[s, x], argTypes:=#[ts, ts] }, type:=ty, pos:=pos, after:=aft, guard:=none } :: rest) a W :=
 wpList_plain rfl fun _ hK=>wp_append_hp h s x ts rfl i ei j ej ht he m c hs hx hl h1 hn (fun v' W' p q=>hK _ _ (hk v' W' p q))
/-- a slice of one, two or more elements, each a whole object -/
theorem run_build_obs {e ts : TypeId} {z bytes : Nat} (he : ElemIs e z bytes) (ht : Try.prog.underlying ts = some (.slice e)) (vs : List (List Value)) (hv : ∀ x ∈ vs, x.length = z) (h0 : 0 < vs.length) (h16 : vs.length ≤ 256) (W : World) :
  Sem.run Try.prog (Instr.buildSlice ts vs.length ((vs.zipIdx 0).map fun x=>(x.2, Value.agg x.1.toArray)).toArray) W = .ok (.slice (some ⟨W.heap.size, 0, none⟩) vs.length vs.length) (W.alloc (.cells (vs.flatMap id).toArray e)):=by
 obtain ⟨inf, zv, hi, hz, hsize, hby, hzs⟩:=he.is
 have hp:=he.pos
 have hsm:=he.small
 refine run_buildSlice W ts e vs.length _ _ inf zv ht hi hz (by rw [hsize];have:=Nat.mul_le_mul h16 hsm;omega) (by rw [hsize];exact Nat.ne_of_gt (Nat.mul_pos h0 hp)) ?_
 rw [hsize]
 have:=Great.fill_whole (s:=z) hp (vs.map fun x=>Value.agg x.toArray) ((Array.range (vs.length * z)).map (zv.cells[· % zv.cells.size]!)) (by
  intro v hm
  obtain ⟨x, hx, rfl⟩:=List.mem_map.1 hm
  exact hv x hx) (by rw [Array.size_map, Array.size_range, List.length_map])
 rw [List.zipIdx_map, List.map_map] at this
 refine Eq.trans ?_ (this.trans ?_)
 ·rfl
 ·congr 1
  rw [List.flatMap_map]
  rfl
theorem wp_build_obs {o : Oper} {a : Act} {W : World} {K : Act → World → Prop} {Q : Exit → Act → World → Prop} {ts : TypeId} {n : Nat} {ps : Array (Nat × Operand)} (ho : o.op = .buildSlice ts n ps) {e : TypeId} {z bytes : Nat} (he : ElemIs e z bytes) (ht : Try.prog.underlying ts = some (.slice e)) (vs : List (List Value)) (hv : ∀ x ∈ vs, x.length = z) (h0 : 0 < vs.length) (h16 : vs.length ≤ 256) (hn : n = vs.length)
  (hp : ps.map (fun x=>(x.1, a.eval x.2)) = ((vs.zipIdx 0).map fun x=>(x.2, Value.agg x.1.toArray)).toArray)
  (h : K (a.put o.dst (.slice (some ⟨W.heap.size, 0, none⟩) n n)) (W.alloc (.cells (vs.flatMap id).toArray e))) : o.wp Try.prog a W K Q:=by
 subst hn
 have hr:=run_build_obs he ht vs hv h0 h16 W
 rw [← hp] at hr
 unfold Oper.wp execOp
 simp only [ho, Sem.run_bind, hr, Result.andThen_ok, Sem.run_pure]
 exact h
theorem wpList_build_obs (ts : TypeId) (n : Nat) {ps : Array (Nat × Operand)} {ops : Array Oper} {rest : List Oper} {a : Act} {W : World} {Q : Exit → Act → World → Prop} {d : Option Tmp} {ty : TypeId} {pos : String} {aft : Array Edge} {e : TypeId} {z bytes : Nat} (he : ElemIs e z bytes) (ht : Try.prog.underlying ts = some (.slice e)) (vs : List (List Value)) (hv : ∀ x ∈ vs, x.length = z) (h0 : 0 < vs.length) (h16 : vs.length ≤ 256) (hn : n = vs.length)
  (hp : ps.map (fun x=>(x.1, a.eval x.2)) = ((vs.zipIdx 0).map fun x=>(x.2, Value.agg x.1.toArray)).toArray)
  (h : wpList Try.prog ops Q rest (a.put d (.slice (some ⟨W.heap.size, 0, none⟩) n n)) (W.alloc (.cells (vs.flatMap id).toArray e))) :
  wpList Try.prog ops Q ({ dst:=d, op:=.buildSlice ts n ps, type:=ty, pos:=pos, after:=aft, guard:=none } :: rest) a W :=
 wpList_plain rfl fun _ hK=>wp_build_obs rfl he ht vs hv h0 h16 hn hp (hK _ _ h)
/-- in a region that draws its order: a value that is built may be taken first -/
theorem yieldsIf_build_v {ops : Array Oper} {S : World → Prop} {op : Oper} {a : Act} (hw : Region.wanted op (yielded ops a.tmps) = true) (t : TypeId) (v : Value) {ps : Array (Nat × Operand)} (ho : op.op = .build t ps)
  (hb : ∀ W, Sem.run Try.prog (Instr.build t (ps.map fun x=>(x.1, a.eval x.2))) W = .ok v W) : YieldsIf Try.prog ops S op v a :=
 .inl ⟨hw, fun W _=>by
  unfold execOp
  simp only [ho, Sem.run_bind, hb W, Result.andThen_ok, Sem.run_pure]⟩
theorem flat_mid {z : Nat} : ∀ (vs : List (List Value)) (_ : ∀ x ∈ vs, x.length = z) (k : Nat) (x : List Value), vs[k]? = some x → ∀ j v, x[j]? = some v → (vs.flatMap id)[k * z + j]? = some v
 | [], _, k, x, h, _, _, _=>by simp at h
 | y :: l, hz, 0, x, h, j, v, hv=>by
  obtain rfl : y = x:=by simpa using h
  rw [List.flatMap_cons, Nat.zero_mul, Nat.zero_add, List.getElem?_append_left (show j < (id y).length from (List.getElem?_eq_some_iff.1 hv).1)]
  exact hv
 | y :: l, hz, k + 1, x, h, j, v, hv=>by
  have hy : (id y).length = z:=hz y (List.mem_cons_self ..)
  rw [List.flatMap_cons, show (k + 1) * z + j = z + (k * z + j) from by rw [Nat.add_mul];omega, List.getElem?_append_right (by omega), hy, Nat.add_sub_cancel_left]
  exact flat_mid l (fun u hu=>hz u (List.mem_cons_of_mem _ hu)) k x (by simpa using h) j v hv
/-- a slice that a callee has made -/
theorem Hp.addown {w W W' : World} {L : List Th} (h : Hp w L W) (hb : Below W.heap.size W W') {v : Value} {t : TypeId} {z n : Nat} {xs : List Value} (ho : W'.ownsRow W.heap.size t z v n xs) : Hp w (L ++ [.sl v t z n xs]) W':=by
 refine h.add hb _ ⟨ho.1, ?_⟩ (fun b e=>(ho.lt b e).1) (fun b e=>by cases e)
 rcases ho.2 with h0 | ⟨g, cap, cur, hv, hB, hr⟩
 ·exact .inl h0
 ·exact .inr ⟨g, cap, cur, hv, Nat.le_trans h.old.size hB, hr⟩
theorem Hp.reads {w W : World} {L : List Th} (h : Hp w L W) (i : Nat) {R : List Rng} (e : L[i]? = some (.rd R)) : RdIn W R:=h.in i e
/-- cells that are read, in memory that a callee made or that is read already -/
theorem Hp.addrd {w W W' : World} {L : List Th} (h : Hp w L W) (hb : Below W.heap.size W W') (R : List Rng) (hR : RdIn W' R) (hr : ∀ r ∈ R, W.heap.size ≤ r.1 ∨ ∃ z ∈ L, r.1 ∈ z.reads) : Hp w (L ++ [.rd R]) W' :=
 h.add hb _ hR (fun b e=>by cases e) (fun b hb'=>by
  obtain ⟨r, hr', rfl⟩:=List.mem_map.1 hb'
  exact hr r hr')
/-- what the walk found is read -/
theorem Hp.startrd (w : World) (R : List Rng) (hR : RdIn w R) : Hp w [.rd R] w:=⟨Below.refl _ _, fun x hx=>by
 obtain rfl:=List.mem_singleton.1 hx
 exact hR, List.pairwise_singleton _ _⟩
/-- a slice of single words -/
theorem flat_cells {vs : List Value} (h : ∀ v ∈ vs, v.cells = #[v]) : (vs.flatMap fun v=>v.cells.toList) = vs:=by
 induction vs with
 | nil=>rfl
 | cons v l ih=>rw [List.flatMap_cons, h v (List.mem_cons_self ..), ih (fun u hu=>h u (List.mem_cons_of_mem _ hu))];rfl
theorem run_build_vals {e ts : TypeId} {bytes : Nat} (he : ElemIs e 1 bytes) (ht : Try.prog.underlying ts = some (.slice e)) (vs : List Value) (hv : ∀ v ∈ vs, v.cells = #[v]) (h0 : 0 < vs.length) (h16 : vs.length ≤ 256) (W : World) :
  Sem.run Try.prog (Instr.buildSlice ts vs.length ((vs.zipIdx 0).map fun x=>(x.2, x.1)).toArray) W = .ok (.slice (some ⟨W.heap.size, 0, none⟩) vs.length vs.length) (W.alloc (.cells vs.toArray e)):=by
 obtain ⟨inf, zv, hi, hz, hsize, hby, hzs⟩:=he.is
 refine run_buildSlice W ts e vs.length _ _ inf zv ht hi hz (by rw [hsize];omega) (by rw [hsize];omega) ?_
 rw [hsize]
 have:=Great.fill_whole (s:=1) (by decide) vs ((Array.range (vs.length * 1)).map (zv.cells[· % zv.cells.size]!)) (by
  intro v hm
  rw [hv v hm];rfl) (by rw [Array.size_map, Array.size_range])
 rw [flat_cells hv] at this
 exact this
theorem wp_build_vals {o : Oper} {a : Act} {W : World} {K : Act → World → Prop} {Q : Exit → Act → World → Prop} {ts : TypeId} {n : Nat} {ps : Array (Nat × Operand)} (ho : o.op = .buildSlice ts n ps) {e : TypeId} {bytes : Nat} (he : ElemIs e 1 bytes) (ht : Try.prog.underlying ts = some (.slice e)) (vs : List Value) (hv : ∀ v ∈ vs, v.cells = #[v]) (h0 : 0 < vs.length) (h16 : vs.length ≤ 256) (hn : n = vs.length)
  (hp : ps.map (fun x=>(x.1, a.eval x.2)) = ((vs.zipIdx 0).map fun x=>(x.2, x.1)).toArray)
  (h : K (a.put o.dst (.slice (some ⟨W.heap.size, 0, none⟩) n n)) (W.alloc (.cells vs.toArray e))) : o.wp Try.prog a W K Q:=by
 subst hn
 have hr:=run_build_vals he ht vs hv h0 h16 W
 rw [← hp] at hr
 unfold Oper.wp execOp
 simp only [ho, Sem.run_bind, hr, Result.andThen_ok, Sem.run_pure]
 exact h
theorem wpList_build_vals (ts : TypeId) (n : Nat) {ps : Array (Nat × Operand)} {ops : Array Oper} {rest : List Oper} {a : Act} {W : World} {Q : Exit → Act → World → Prop} {d : Option Tmp} {ty : TypeId} {pos : String} {aft : Array Edge} {e : TypeId} {bytes : Nat} (he : ElemIs e 1 bytes) (ht : Try.prog.underlying ts = some (.slice e)) (vs : List Value) (hv : ∀ v ∈ vs, v.cells = #[v]) (h0 : 0 < vs.length) (h16 : vs.length ≤ 256) (hn : n = vs.length)
  (hp : ps.map (fun x=>(x.1, a.eval x.2)) = ((vs.zipIdx 0).map fun x=>(x.2, x.1)).toArray)
  (h : wpList Try.prog ops Q rest (a.put d (.slice (some ⟨W.heap.size, 0, none⟩) n n)) (W.alloc (.cells vs.toArray e))) :
  wpList Try.prog ops Q ({ dst:=d, op:=.buildSlice ts n ps, type:=ty, pos:=pos, after:=aft, guard:=none } :: rest) a W :=
 wpList_plain rfl fun _ hK=>wp_build_vals rfl he ht vs hv h0 h16 hn hp (hK _ _ h)
end Go.Proofs.Ytooaldglgkjjgaa
/- a slice that reads as these cells; what reads is appended to a slice of the walk's own -/
namespace Go.Proofs.Ytooaldglgkjjgaa
open Go.RowKit
set_option maxRecDepth 20000

/-- a slice that reads as these cells -/
def SlRd (v : Value) (z n : Nat) (xs : List Value) (R : List Rng) : Prop :=
  ∃ a cap, v = .slice a n cap ∧ xs.length = n * z ∧ n ≤ cap ∧ cap ≤ maxLen ∧ (0 < n → ∃ g off, a = some ⟨g, off, none⟩ ∧ (g, off, xs) ∈ R) ∧ (a = none → cap = 0)
theorem SlRd.mono {v : Value} {z n : Nat} {xs : List Value} {R S : List Rng} (h : SlRd v z n xs R) (hs : ∀ r ∈ R, r ∈ S) : SlRd v z n xs S:=by
  obtain ⟨a, cap, h1, h2, h3, h4, h5, h8⟩:=h
  refine ⟨a, cap, h1, h2, h3, h4, fun h=>?_, h8⟩
  obtain ⟨g, off, h6, h7⟩:=h5 h
  exact ⟨g, off, h6, hs _ h7⟩
theorem SlRd.nil (z : Nat) (R : List Rng) : SlRd (.slice none 0 0) z 0 [] R:=⟨none, 0, rfl, by simp, Nat.le_refl _, Nat.zero_le _, fun h=>absurd h (by decide), fun _=>rfl⟩
/-- a slice of the walk's own, handed out, reads -/
theorem own_reads {B : Nat} {W : World} {e : TypeId} {z n : Nat} {v : Value} {xs : List Value} (h : W.ownsRow B e z v n xs) : ∃ R, SlRd v z n xs R ∧ RdIn W R ∧ (∀ r ∈ R, B ≤ r.1 ∧ v.ownBlock = some r.1):=by
  have hl:=h.1
  rcases h.2 with ⟨hv, h0⟩ | ⟨g, cap, cur, hv, hB, hg, h1, h2, h3⟩
  · subst h0
    have : xs = []:=List.eq_nil_of_length_eq_zero (by rw [hl];omega)
    subst this
    exact ⟨[], by rw [hv];exact SlRd.nil z [], RdIn.nil W, by simp⟩
  · have hr : W.rangeAt g 0 xs:=own_range h hv 0 xs (fun j u hu=>by rw [Nat.zero_add];exact hu)
    refine ⟨[(g, 0, xs)], ⟨_, cap, hv, hl, h1, h2, fun _=>⟨g, 0, rfl, List.mem_singleton.2 rfl⟩, fun h=>by cases h⟩, fun r hr'=>?_, fun r hr'=>?_⟩
    · obtain rfl:=List.mem_singleton.1 hr'
      exact ⟨(Array.getElem?_eq_some_iff.1 hg).1, hr⟩
    · obtain rfl:=List.mem_singleton.1 hr'
      exact ⟨hB, by rw [hv];rfl⟩
/-- what reads is appended to a slice of the walk's own -/
theorem Hp.appendSl {w W : World} {L : List Th} (h : Hp w L W) (i : Nat) {v : Value} {e : TypeId} {z n : Nat} {xs : List Value} (ei : L[i]? = some (.sl v e z n xs)) {x : Value} {m : Nat} {ys : List Value} {R : List Rng} (hx : SlRd x z m ys R) (hR : RdIn W R)
    (ts : TypeId) (ty : TypeId) {bytes : Nat} (ht : Try.prog.underlying ts = some (.slice e)) (he : ElemIs e z bytes) (h1 : ∀ u ∈ ys, u.oneCell' = true) (hn : n + m ≤ 1048576) :
    ∃ v' W', (Builtin.append_ #[ts, ts] ty #[v, x]).run Try.prog W = .ok v' W' ∧ Hp w (L.set i (.sl v' e z (n + m) (xs ++ ys))) W':=by
  obtain ⟨inf, zv, hi, hz, hsize, hby, hzs⟩:=he.is
  have hroom:=he.room
  obtain ⟨a, cap, rfl, hl, hmc, hcm, hg, h0⟩:=hx
  cases a with
  | none =>
    have hc:=h0 rfl
    have hm : m = 0:=by omega
    subst hc hm
    have hys : ys = []:=List.eq_nil_of_length_eq_zero (by rw [hl];omega)
    subst hys
    refine ⟨v, W, run_append_owned_none (P:=Try.prog) W w.heap.size ts ty e inf z ht hi v n xs (h.own i ei), ?_⟩
    rw [List.append_nil, Nat.add_zero]
    have : L.set i (.sl v e z n xs) = L:=by
      apply List.ext_getElem?
      intro j
      rw [List.getElem?_set]
      split
      · next hij =>
        subst hij
        rw [ei]
        split
        · rfl
        · next hlt=>rw [List.getElem?_eq_none (by omega)] at ei;cases ei
      · rfl
    rw [this]
    exact h
  | some a =>
    have hcell : ∀ q u, ys[q]? = some u → W.cell? (a.add q) = some u:=fun q u hu=>by
      have hq:=(List.getElem?_eq_some_iff.1 hu).1
      have hm : 0 < m:=by
        rcases Nat.eq_zero_or_pos m with h | h
        · rw [h, Nat.zero_mul] at hl;omega
        · exact h
      obtain ⟨g, off, ha, hmem⟩:=hg hm
      obtain rfl:=Option.some.inj ha
      rw [Addr.add_mid]
      exact (hR _ hmem).2 q u hu
    obtain ⟨v', W', hr, h2, h3, h4, h5⟩:=run_append_own_at (P:=Try.prog) W w.heap.size ts ty e inf zv z bytes ht hi hz hsize hby hzs he.pos v n xs (h.own i ei) a m cap ys hl hcell h1 (by unfold maxLen;omega) (by
      have:=Nat.mul_le_mul hn hroom
      omega) h.old.size
    exact ⟨v', W', hr, h.grown i ei h2 h3 h5⟩
theorem wp_append_sl {o : Oper} {a : Act} {w W : World} {K : Act → World → Prop} {Q : Exit → Act → World → Prop} {L : List Th} (h : Hp w L W) (s x : Operand) (ts : TypeId) (ho : o.op = .call { callee:=.builtin .append, args:=#[s, x], argTypes:=#[ts, ts] })
    (i : Nat) {v : Value} {e : TypeId} {z n : Nat} {xs : List Value} (ei : L[i]? = some (.sl v e z n xs)) {xv : Value} {m : Nat} {ys : List Value} {R : List Rng} (hxv : SlRd xv z m ys R) (hR : RdIn W R) {bytes : Nat} (ht : Try.prog.underlying ts = some (.slice e)) (he : ElemIs e z bytes)
    (hs : a.eval s = v) (hx : a.eval x = xv) (h1 : ∀ u ∈ ys, u.oneCell' = true) (hn : n + m ≤ 1048576)
    (hk : ∀ v' W', Hp w (L.set i (.sl v' e z (n + m) (xs ++ ys))) W' → K (a.put o.dst v') W') : o.wp Try.prog a W K Q:=by
  obtain ⟨v', W', hr, h2⟩:=h.appendSl i ei hxv hR ts o.type ht he h1 hn
  unfold Oper.wp execOp
  simp only [ho, resolve, invoke, builtin, Sem.run_bind, Sem.run_pure, Result.andThen_ok, List.map_toArray, List.map_cons, List.map_nil, hs, hx, hr]
  exact hk v' W' h2
theorem wpList_append_sl {ops : Array Oper} {rest : List Oper} {a : Act} {w W : World} {Q : Exit → Act → World → Prop} {d : Option Tmp} {ty : TypeId} {pos : String} {aft : Array Edge} {L : List Th} (h : Hp w L W) (s x : Operand) (ts : TypeId)
    (i : Nat) {v : Value} {e : TypeId} {z n : Nat} {xs : List Value} (ei : L[i]? = some (.sl v e z n xs)) {xv : Value} {m : Nat} {ys : List Value} {R : List Rng} (hxv : SlRd xv z m ys R) (hR : RdIn W R) {bytes : Nat} (ht : Try.prog.underlying ts = some (.slice e)) (he : ElemIs e z bytes)
    (hs : a.eval s = v) (hx : a.eval x = xv) (h1 : ∀ u ∈ ys, u.oneCell' = true) (hn : n + m ≤ 1048576)
    (hk : ∀ v' W', Hp w (L.set i (.sl v' e z (n + m) (xs ++ ys))) W' → wpList Try.prog ops Q rest (a.put d v') W') :
    wpList Try.prog ops Q ({ dst:=d, op:=.call { callee:=.builtin .append, args:=#[s, x], argTypes:=#[ts, ts] }, type:=ty, pos:=pos, after:=aft, guard:=none } :: rest) a W :=
  wpList_plain rfl fun _ hK=>wp_append_sl h s x ts rfl i ei hxv hR ht he hs hx h1 hn (fun v' W' p=>hK _ _ (hk v' W' p))
theorem SlRd.open {v : Value} {z n : Nat} {xs : List Value} {R : List Rng} (h : SlRd v z n xs R) {w : World} (hR : RdIn w R) :
    ∃ a cap, v = .slice a n cap ∧ n ≤ cap ∧ cap ≤ maxLen ∧ Hid (0 < n → ∃ g off, a = some ⟨g, off, none⟩ ∧ ∀ W, Below w.heap.size w W → W.rangeAt g off xs):=by
  obtain ⟨a, cap, h1, h2, h3, h4, h5, _⟩:=h
  refine ⟨a, cap, h1, h3, h4, fun h0=>?_⟩
  obtain ⟨g, off, h6, h7⟩:=h5 h0
  refine ⟨g, off, h6, fun W hb=>?_⟩
  exact (hR.below hb _ h7).2
theorem all_take {α : Type} {l : List α} {f : α → Bool} {k : Nat} (h : k < l.length) (ha : (l.take k).all f = true) (hx : f l[k] = true) : (l.take (k + 1)).all f = true:=by
  rw [List.take_succ_eq_append_getElem h, List.all_append, ha]
  simp [hx]
theorem elem_of {t : TypeId} {z : Value} {s b : Nat} (h : (Try.prog.info? t).map (fun i=>(i.zero, i.size, i.bytes)) = some (some z, s, b)) (hz : z.cells.size = s) (h1 : 0 < s) (h2 : s ≤ 65536) (h3 : b ≤ 65536) : ElemIs t s b:=by
  obtain ⟨i, e1, e2, e3, e4⟩:=info_of h
  exact ⟨⟨i, z, e1, e2, e3, e4, hz⟩, h1, h2, h3⟩
theorem elem_i : ElemIs 3 1 8:=elem_of (z:=.int .i64 0) (by kernel_rfl) rfl (by decide) (by decide) (by decide)
theorem own_slice {B : Nat} {W : World} {e : TypeId} {z n : Nat} {v : Value} {xs : List Value} (h : W.ownsRow B e z v n xs) : ∃ a c, v = .slice a n c:=by
  rcases h.2 with ⟨rfl, h0⟩ | ⟨g, cap, cur, rfl, _⟩
  · exact ⟨none, 0, by rw [h0]⟩
  · exact ⟨_, _, rfl⟩
end Go.Proofs.Ytooaldglgkjjgaa
/- grants, locks and lock tables as values of the program -/
namespace Go.Proofs.Ytooaldglgkjjgaa
open Go.RowKit
set_option maxRecDepth 20000

structure Lok where
  page : Int
  slot : Int
def lkCells (k : Lok) : List Value:=[.int .i64 k.page, .int .i64 k.slot]
def lkNil : Lok:=⟨0, 0⟩
def grCells (g : Gr) : List Value:=[.int .i64 g.tx, .int .i64 g.page, .int .i64 g.slot, .int .i64 g.mode]
def tbCells (h w : Value) : List Value:=[h, w]
abbrev Gr.lock (g : Gr) : Lok:=⟨g.page, g.slot⟩
structure GoodLk (k : Lok) : Prop where
  page : (Lit.int .i64 k.page).wf = true
  slot : (Lit.int .i64 k.slot).wf = true
structure GoodGr (g : Gr) : Prop where
  tx : (Lit.int .i64 g.tx).wf = true
  page : (Lit.int .i64 g.page).wf = true
  slot : (Lit.int .i64 g.slot).wf = true
  mode : (Lit.int .i64 g.mode).wf = true
structure GoodTb (t : Tb) : Prop where
  held : ∀ g ∈ t.held, GoodGr g
  wait : ∀ g ∈ t.wait, GoodGr g
  few : t.held.length ≤ 100000 ∧ t.wait.length ≤ 100000
theorem GoodGr.lock {g : Gr} (h : GoodGr g) : GoodLk g.lock:=⟨h.page, h.slot⟩
theorem grNil_good : GoodGr grNil:=⟨by decide, by decide, by decide, by decide⟩
theorem lk_wf {n : Int} (h : -9223372036854775808 ≤ n ∧ n ≤ 9223372036854775807) : (Lit.int .i64 n).wf = true:=by
  show (decide (IntKind.i64.min ≤ n) && decide (n ≤ IntKind.i64.max)) = true
  rw [Bool.and_eq_true, decide_eq_true_eq, decide_eq_true_eq]
  exact h
theorem GrOk.good {g : Gr} (h : GrOk g) : GoodGr g:=by
  obtain ⟨h1, h2, h3, h4⟩:=h
  exact ⟨lk_wf (by omega), lk_wf (by omega), lk_wf (by omega), lk_wf (by omega)⟩
theorem TbIn.good {t : Tb} (h : TbIn t) (hf : t.held.length + t.wait.length ≤ 2048) : GoodTb t:=⟨fun g hg=>(h.held.ok g hg).good, fun g hg=>(h.wait.ok g hg).1.good, by omega, by omega⟩
theorem TbOk.good {t : Tb} (h : TbOk t) : GoodTb t:=h.tin.good (by have:=h.few;omega)
theorem grCells_length (g : Gr) : (grCells g).length = 4:=rfl
theorem lkCells_length (g : Lok) : (lkCells g).length = 2:=rfl
theorem oneCell_gr (g : Gr) : ((grCells g).toArray).all (·.oneCell') = true:=by kernel_rfl
theorem oneCell_tb (a b : Option Addr) (n c m d : Nat) : ((tbCells (.slice a n c) (.slice b m d)).toArray).all (·.oneCell') = true:=by kernel_rfl
theorem info_gr : (Try.prog.info? 29).map (·.size) = some 4:=by kernel_rfl
theorem info_lk : (Try.prog.info? 27).map (·.size) = some 2:=by kernel_rfl
theorem info_tb : (Try.prog.info? 25).map (·.size) = some 2:=by kernel_rfl
theorem under_gr : ∃ fs, Try.prog.underlying 29 = some (.struct fs):=⟨_, Try.underlying29⟩
theorem under_lk : ∃ fs, Try.prog.underlying 27 = some (.struct fs):=⟨_, Try.underlying27⟩
theorem under_tb : ∃ fs, Try.prog.underlying 25 = some (.struct fs):=⟨_, Try.underlying25⟩
theorem under_grs : Try.prog.underlying 23 = some (.slice 29):=Try.underlying23
theorem elem_gr : ElemIs 29 4 32:=elem_of (z:=.agg (grCells grNil).toArray) (by kernel_rfl) rfl (by decide) (by decide) (by decide)
theorem alloc_gr (w : World) : Sem.run Try.prog (Instr.alloc 29 true (.tuple #[])) w = .ok (.pointer (some ⟨w.heap.size, 0, none⟩)) (w.alloc (.cells (grCells grNil).toArray 29)):=by kernel_rfl
theorem alloc_tb (w : World) : Sem.run Try.prog (Instr.alloc 25 true (.tuple #[])) w = .ok (.pointer (some ⟨w.heap.size, 0, none⟩)) (w.alloc (.cells (tbCells (.slice none 0 0) (.slice none 0 0)).toArray 25)):=by kernel_rfl
theorem build_gr0 (W : World) : Sem.run Try.prog (Instr.build 29 #[]) W = .ok (.agg (grCells grNil).toArray) W:=by kernel_rfl
theorem build_lk0 (W : World) : Sem.run Try.prog (Instr.build 27 #[]) W = .ok (.agg (lkCells lkNil).toArray) W:=by kernel_rfl
theorem build_tb0 (W : World) : Sem.run Try.prog (Instr.build 25 #[]) W = .ok (.agg (tbCells (.slice none 0 0) (.slice none 0 0)).toArray) W:=by kernel_rfl
theorem mid_lk (g : Gr) : ∀ j v, (lkCells g.lock)[j]? = some v → (grCells g)[1 + j]? = some v
  | 0, _, h=>h | 1, _, h=>h | j + 2, v, h=>by simp [lkCells] at h
def lkLits (k : Lok) : List Lit:=[.int .i64 k.page, .int .i64 k.slot]
theorem lkLits_iff (a b : Lok) : lkLits a = lkLits b ↔ a = b:=by
  constructor
  · intro h
    simp only [lkLits, List.cons.injEq, Lit.int.injEq, true_and, and_true] at h
    obtain ⟨h1, h2⟩:=h
    obtain ⟨a1, a2⟩:=a
    obtain ⟨b1, b2⟩:=b
    simp only at h1 h2
    rw [h1, h2]
  · rintro rfl;rfl
theorem cellsOf_lk : Try.prog.cellsOf 27 = 2:=by kernel_rfl
theorem lits_lk (d : Nat) (k : Lok) (h : GoodLk k) : Try.prog.keyLits (d + 2) 27 (lkCells k) = some (lkLits k):=by
  rw [show d + 2 = (d + 1) + 1 from rfl]
  unfold Program.keyLits
  rw [Try.underlying27]
  simp only
  rw [if_pos ⟨by rw [cellsOf_lk];rfl, by kernel_rfl⟩]
  have h1:=lits_int d k.page h.page
  have h2:=lits_int d k.slot h.slot
  unfold lkCells
  simp only [List.mapM_cons, List.mapM_nil, cellsOf_int, List.drop_zero, List.take_succ_cons, List.take_zero, List.drop_succ_cons, h1, h2]
  simp [lkLits, List.flatten, pure, bind]
theorem lk_formed (k : Lok) : (Value.agg (lkCells k).toArray).formed Try.prog 27 = true:=by
  unfold Value.formed
  rw [Try.underlying27]
  simp only
  rw [List.size_toArray, lkCells_length, cellsOf_lk]
  rfl
theorem equal_lk (a b : Lok) (ha : GoodLk a) (hb : GoodLk b) (w : World) : Sem.run Try.prog (Op.equal 27 (.agg (lkCells a).toArray) (.agg (lkCells b).toArray)) w = .ok (sameV a b) w :=
  equal_lits 27 a b _ _ _ _ (by kernel_rfl) (lk_formed a) (lk_formed b) (lits_lk 2 a ha) (lits_lk 2 b hb) (lkLits_iff a b) w
def grLits (g : Gr) : List Lit:=[.int .i64 g.tx, .int .i64 g.page, .int .i64 g.slot, .int .i64 g.mode]
theorem grLits_iff (a b : Gr) : grLits a = grLits b ↔ a = b:=by
  constructor
  · intro h
    simp only [grLits, List.cons.injEq, Lit.int.injEq, true_and, and_true] at h
    exact Gr.ext' h.1 h.2.1 h.2.2.1 h.2.2.2
  · rintro rfl;rfl
theorem cellsOf_gr : Try.prog.cellsOf 29 = 4:=by kernel_rfl
theorem lits_gr (d : Nat) (g : Gr) (h : GoodGr g) : Try.prog.keyLits (d + 3) 29 (grCells g) = some (grLits g):=by
  rw [show d + 3 = (d + 2) + 1 from rfl]
  unfold Program.keyLits
  rw [Try.underlying29]
  simp only
  rw [if_pos ⟨by rw [cellsOf_gr];rfl, by kernel_rfl⟩]
  have h1:=lits_int (d + 1) g.tx h.tx
  have h2:=lits_lk d g.lock h.lock
  have h3:=lits_int (d + 1) g.mode h.mode
  simp only [lkCells] at h2
  unfold grCells
  simp only [List.mapM_cons, List.mapM_nil, cellsOf_int, cellsOf_lk, List.drop_zero, List.take_succ_cons, List.take_zero, List.drop_succ_cons, h1, h2, h3]
  simp [grLits, lkLits, List.flatten, pure, bind]
theorem gr_formed (g : Gr) : (Value.agg (grCells g).toArray).formed Try.prog 29 = true:=by
  unfold Value.formed
  rw [Try.underlying29]
  simp only
  rw [List.size_toArray, grCells_length, cellsOf_gr]
  rfl
theorem equal_gr (a b : Gr) (ha : GoodGr a) (hb : GoodGr b) (w : World) : Sem.run Try.prog (Op.equal 29 (.agg (grCells a).toArray) (.agg (grCells b).toArray)) w = .ok (sameV a b) w :=
  equal_lits 29 a b _ _ _ _ (by kernel_rfl) (gr_formed a) (gr_formed b) (lits_gr 1 a ha) (lits_gr 1 b hb) (grLits_iff a b) w
def grRow (l : List Gr) : List Value:=l.flatMap grCells
theorem grRow_length (l : List Gr) : (grRow l).length = l.length * 4:=by
  induction l with
  | nil=>rfl
  | cons e l ih=>unfold grRow at ih ⊢;rw [List.flatMap_cons, List.length_append, ih, grCells_length, List.length_cons];omega
theorem grRow_at : ∀ (l : List Gr) (k : Nat) (e : Gr), l[k]? = some e → ∀ j v, (grCells e)[j]? = some v → (grRow l)[k * 4 + j]? = some v
  | [], k, e, h=>by simp at h
  | x :: l, 0, e, h=>by
    obtain rfl : x = e:=by simpa using h
    intro j v hv
    unfold grRow
    rw [List.flatMap_cons, Nat.zero_mul, Nat.zero_add, List.getElem?_append_left (List.getElem?_eq_some_iff.1 hv).1]
    exact hv
  | x :: l, k + 1, e, h=>by
    intro j v hv
    unfold grRow
    rw [List.flatMap_cons, show (k + 1) * 4 + j = 4 + (k * 4 + j) from by omega, List.getElem?_append_right (by rw [grCells_length];omega), grCells_length, Nat.add_sub_cancel_left]
    exact grRow_at l k e (by simpa using h) j v hv
theorem grRow_append (a b : List Gr) : grRow (a ++ b) = grRow a ++ grRow b:=by unfold grRow;rw [List.flatMap_append]
theorem grRow_one (e : Gr) : grRow [e] = grCells e:=by unfold grRow;rw [List.flatMap_cons, List.flatMap_nil, List.append_nil]
theorem one_gr (e : Gr) : ∀ u ∈ grCells e, u.oneCell' = true:=by
  intro u hu
  simp only [grCells, List.mem_cons, List.not_mem_nil, or_false] at hu
  rcases hu with rfl | rfl | rfl | rfl <;> rfl
theorem one_grs (l : List Gr) : ∀ u ∈ grRow l, u.oneCell' = true:=by
  intro u hu
  obtain ⟨e, _, he⟩:=List.mem_flatMap.1 hu
  exact one_gr e u he
theorem grRow_drop (l : List Gr) (k : Nat) : grRow (l.drop k) = (grRow l).drop (k * 4):=by
  induction k generalizing l with
  | zero=>simp
  | succ k ih =>
    cases l with
    | nil=>simp [grRow]
    | cons x l =>
      rw [List.drop_succ_cons, ih]
      unfold grRow
      rw [List.flatMap_cons, show (k + 1) * 4 = (grCells x).length + k * 4 from by rw [grCells_length];omega, List.drop_append]
      simp
theorem grRow_take (l : List Gr) (k : Nat) : grRow (l.take k) = (grRow l).take (k * 4):=by
  have h1:=List.take_append_drop k l
  have h2 : grRow l = grRow (l.take k) ++ (grRow l).drop (k * 4):=by
    rw [← grRow_drop, ← grRow_append, h1]
  rcases Nat.lt_or_ge l.length k with h | h
  · rw [List.take_of_length_le (by omega), List.take_of_length_le (by rw [grRow_length];omega)]
  · have h3 : (grRow (l.take k)).length = k * 4:=by rw [grRow_length, List.length_take];omega
    conv=>rhs;rw [h2]
    rw [← h3, List.take_left']
    rfl
theorem range_part {W : World} {b o k : Nat} {cs ds : List Value} (h : W.rangeAt b o cs) (hv : ∀ j v, ds[j]? = some v → cs[k + j]? = some v) : W.rangeAt b (o + k) ds:=fun j v hj=>by rw [Nat.add_assoc];exact h (k + j) v (hv j v hj)
theorem elem_rng {W : World} {g off i : Nat} {l : List Gr} {x : Gr} (h : W.rangeAt g off (grRow l)) (hx : l[i]? = some x) : W.rangeAt g (off + i * 4) (grCells x):=fun j v hv=>by rw [Nat.add_assoc];exact h _ _ (grRow_at l i x hx j v hv)
/-- a slice that reads as these grants -/
def GrRd (v : Value) (l : List Gr) (R : List Rng) : Prop:=SlRd v 4 l.length (grRow l) R
/-- a table that reads as this one -/
def TbRd (h w : Value) (t : Tb) (R : List Rng) : Prop:=GrRd h t.held R ∧ GrRd w t.wait R
def TbPost (w : World) (R0 : List Rng) (t : Tb) (e : Ending) (w' : World) : Prop :=
  ∃ h v R, e = .returned (.agg (tbCells h v).toArray) ∧ TbRd h v t R ∧ RdIn w' R ∧ (∀ r ∈ R, w.heap.size ≤ r.1 ∨ r.1 ∈ R0.map (·.1)) ∧ Below w.heap.size w w'
def TbPost3 (w : World) (R0 : List Rng) (x : Tb × Bool × Int) (e : Ending) (w' : World) : Prop :=
  ∃ h v R, e = .returned (.tuple #[.agg (tbCells h v).toArray, .bool x.2.1, .int .i64 x.2.2]) ∧ TbRd h v x.1 R ∧ RdIn w' R ∧ (∀ r ∈ R, w.heap.size ≤ r.1 ∨ r.1 ∈ R0.map (·.1)) ∧ Below w.heap.size w w'
/-- a slice of new memory -/
def GrPost (w : World) (l : List Gr) (e : Ending) (w' : World) : Prop:=∃ v R, e = .returned v ∧ GrRd v l R ∧ RdIn w' R ∧ (∀ r ∈ R, w.heap.size ≤ r.1) ∧ Below w.heap.size w w'
theorem hp_snoc {w W : World} {A : List Th} {v : Value} {l : List Gr} {x : Gr} (h : Hp w (A ++ [.sl v 29 4 (l.length + 1) (grRow l ++ grCells x)]) W) : Hp w (A ++ [.sl v 29 4 (l ++ [x]).length (grRow (l ++ [x]))]) W:=by
  rw [grRow_append, grRow_one, List.length_append];exact h
theorem gr_hand {w W : World} {v : Value} {l : List Gr} (h : W.ownsRow w.heap.size 29 4 v l.length (grRow l)) (hb : Below w.heap.size w W) : GrPost w l (.returned v) W:=by
  obtain ⟨R, h1, h2, h3⟩:=own_reads h
  exact ⟨v, R, rfl, h1, h2, fun r hr=>(h3 r hr).1, hb⟩
theorem TbRd.nil (R : List Rng) : TbRd (.slice none 0 0) (.slice none 0 0) tbNil R:=⟨SlRd.nil _ _, SlRd.nil _ _⟩
theorem TbPost3.none {w w' : World} {R0 : List Rng} {x : Tb × Bool × Int} {n : Int} (hx : x = (tbNil, false, n)) (hb : Below w.heap.size w w') : TbPost3 w R0 x (.returned (.tuple #[.agg (tbCells (.slice none 0 0) (.slice none 0 0)).toArray, .bool false, .int .i64 n])) w':=by
  subst hx
  exact ⟨_, _, [], rfl, TbRd.nil _, RdIn.nil _, by simp, hb⟩
theorem TbPost3.same {w w' : World} {h v : Value} {t : Tb} {R : List Rng} {x : Tb × Bool × Int} {b : Bool} {n : Int} (hx : x = (t, b, n)) (ht : TbRd h v t R) (hR : RdIn w R) (hb : Below w.heap.size w w') : TbPost3 w R x (.returned (.tuple #[.agg (tbCells h v).toArray, .bool b, .int .i64 n])) w':=by
  subst hx
  exact ⟨_, _, R, rfl, ht, hR.below hb, fun r hr=>.inr (List.mem_map.2 ⟨r, hr, rfl⟩), hb⟩
theorem TbPost.same {w w' : World} {h v : Value} {t x : Tb} {R : List Rng} (hx : x = t) (ht : TbRd h v t R) (hR : RdIn w R) (hb : Below w.heap.size w w') : TbPost w R x (.returned (.agg (tbCells h v).toArray)) w':=by
  subst hx
  exact ⟨_, _, R, rfl, ht, hR.below hb, fun r hr=>.inr (List.mem_map.2 ⟨r, hr, rfl⟩), hb⟩
end Go.Proofs.Ytooaldglgkjjgaa
/- the small functions on grants: the order, conflicts, validity -/
namespace Go.Proofs.Ytooaldglgkjjgaa
open Go.RowKit
set_option maxRecDepth 20000
set_option linter.unusedSimpArgs false
set_option linter.unusedVariables false

theorem beq_dec' (a b : Int) : (a == b) = decide (a = b):=by rw [Bool.eq_iff_iff];simp
theorem eq_facts {a b : Int} (h : a = b) : (a == b) = true ∧ (a != b) = false:=⟨beq_iff_eq.2 h, by subst h;simp⟩
theorem ne_facts {a b : Int} (h : ¬ a = b) : (a == b) = false ∧ (a != b) = true:=⟨by simp [h], by simp [h]⟩
set_option maxHeartbeats 4000000 in
theorem rless_any (a b : Gr) (w : World) : Calls Try.prog 50 #[.agg (grCells a).toArray, .agg (grCells b).toArray] w fun e w'=>e = .returned (.bool (ltB a b)) ∧ Below w.heap.size w w':=by
 have HB : Hid (∀ cs ds, Below w.heap.size w ((w.alloc (.cells cs 29)).alloc (.cells ds 29))):=fun cs ds=>((Below.refl _ _).alloc (Nat.le_refl _) _).alloc (by simp) _
 unfold grCells
 by_cases h1 : a.page = b.page
 ·obtain ⟨e1, n1⟩:=eq_facts h1
  by_cases h2 : a.slot = b.slot
  ·obtain ⟨e2, n2⟩:=eq_facts h2
   have HV : Hid (ltB a b = decide (a.tx < b.tx)):=Lib.hid (by unfold ltB;simp [h1, h2])
   clear h1 h2
   go_enter Try.func50, Try.ntmps50
   go_wp2
   go_ret
   exact ⟨ret_bool (by rw [HV.out]), HB.out _ _⟩
  ·obtain ⟨e2, n2⟩:=ne_facts h2
   have HV : Hid (ltB a b = decide (a.slot < b.slot)):=Lib.hid (by unfold ltB;simp [h1, h2])
   clear h1 h2
   go_enter Try.func50, Try.ntmps50
   go_wp2
   go_ret
   exact ⟨ret_bool (by rw [HV.out]), HB.out _ _⟩
 ·obtain ⟨e1, n1⟩:=ne_facts h1
  have HV : Hid (ltB a b = decide (a.page < b.page)):=Lib.hid (by unfold ltB;simp [h1])
  clear h1
  go_enter Try.func50, Try.ntmps50
  go_wp2
  go_ret
  exact ⟨ret_bool (by rw [HV.out]), HB.out _ _⟩
set_option maxHeartbeats 4000000 in
theorem rconflict_any (a b : Gr) (w : World) (ha : GoodGr a) (hb : GoodGr b) : Calls Try.prog 34 #[.agg (grCells a).toArray, .agg (grCells b).toArray] w fun e w'=>e = .returned (.bool (confB a b)) ∧ Below w.heap.size w w':=by
 have HB : Hid (∀ cs ds, Below w.heap.size w ((w.alloc (.cells cs 29)).alloc (.cells ds 29))):=fun cs ds=>((Below.refl _ _).alloc (Nat.le_refl _) _).alloc (by simp) _
 have hq : ∀ W, Sem.run Try.prog (binOp .eql 27 (.agg #[.int .i64 a.page, .int .i64 a.slot]) (.agg #[.int .i64 b.page, .int .i64 b.slot])) W = .ok (.bool (sameV a.lock b.lock)) W:=fun W=>run_eql (equal_lk a.lock b.lock ha.lock hb.lock) W
 have hs : sameV a.lock b.lock = (decide (a.page = b.page) && decide (a.slot = b.slot)):=by
  rw [Bool.eq_iff_iff, sameV_iff, Bool.and_eq_true, decide_eq_true_eq, decide_eq_true_eq]
  exact ⟨fun h=>⟨congrArg Lok.page h, congrArg Lok.slot h⟩, fun h=>by show Lok.mk _ _ = Lok.mk _ _;rw [h.1, h.2]⟩
 clear ha hb
 unfold grCells
 generalize sameV a.lock b.lock = q at *
 by_cases h1 : a.tx = b.tx
 ·obtain ⟨e1, n1⟩:=eq_facts h1
  have HV : Hid (confB a b = false):=Lib.hid (by unfold confB;simp [h1])
  clear h1 hs
  go_enter Try.func34, Try.ntmps34
  go_wp2
  go_ret
  exact ⟨ret_bool (by rw [HV.out]), HB.out _ _⟩
 ·obtain ⟨e1, n1⟩:=ne_facts h1
  cases q
  ·have HV : Hid (confB a b = false):=Lib.hid (by unfold confB;have:=hs.symm;simp only [Bool.and_eq_false_iff, decide_eq_false_iff_not] at this;rcases this with h | h <;> simp [h])
   clear h1 hs
   go_enter Try.func34, Try.ntmps34
   go_wp2
   go_ret
   exact ⟨ret_bool (by rw [HV.out]), HB.out _ _⟩
  ·have hs2:=hs.symm
   simp only [Bool.and_eq_true, decide_eq_true_eq] at hs2
   by_cases h2 : a.mode = 2
   ·obtain ⟨e2, n2⟩:=eq_facts h2
    have HV : Hid (confB a b = true):=Lib.hid (by unfold confB;simp [h1, hs2.1, hs2.2, h2])
    clear h1 hs hs2 h2
    go_enter Try.func34, Try.ntmps34
    go_wp2
    go_ret
    exact ⟨ret_bool (by rw [HV.out]), HB.out _ _⟩
   ·obtain ⟨e2, n2⟩:=ne_facts h2
    have HV : Hid (confB a b = (b.mode == 2)):=Lib.hid (by unfold confB;simp [h1, hs2.1, hs2.2, h2, beq_dec'])
    clear h1 hs hs2 h2
    go_enter Try.func34, Try.ntmps34
    go_wp2
    go_ret
    exact ⟨ret_bool (by rw [HV.out]), HB.out _ _⟩
set_option maxHeartbeats 8000000 in
theorem rgrant_any (g : Gr) (w : World) : Calls Try.prog 49 #[.agg (grCells g).toArray] w fun e w'=>e = .returned (.bool (grOkB g)) ∧ Below w.heap.size w w':=by
 have HB : Hid (∀ cs, Below w.heap.size w (w.alloc (.cells cs 29))):=fun cs=>(Below.refl _ _).alloc (Nat.le_refl _) _
 have HV : Hid (grOkB g = (decide (1 ≤ g.tx) && (decide (g.tx ≤ 1073741824) && (decide (0 ≤ g.page) && (decide (g.page < 64) && (decide (0 ≤ g.slot) && (decide (g.slot < 16) && (decide (g.mode = 1) || decide (g.mode = 2))))))))):=rfl
 have m1:=beq_dec' g.mode 1
 have m2:=beq_dec' g.mode 2
 unfold grCells
 obtain ⟨p0, hp0⟩ : ∃ p, decide (1 ≤ g.tx) = p:=⟨_, rfl⟩
 obtain ⟨p1, hp1⟩ : ∃ p, decide (g.tx ≤ 1073741824) = p:=⟨_, rfl⟩
 obtain ⟨p2, hp2⟩ : ∃ p, decide (0 ≤ g.page) = p:=⟨_, rfl⟩
 obtain ⟨p3, hp3⟩ : ∃ p, decide (g.page < 64) = p:=⟨_, rfl⟩
 obtain ⟨p4, hp4⟩ : ∃ p, decide (0 ≤ g.slot) = p:=⟨_, rfl⟩
 obtain ⟨p5, hp5⟩ : ∃ p, decide (g.slot < 16) = p:=⟨_, rfl⟩
 obtain ⟨p6, hp6⟩ : ∃ p, decide (g.mode = 1) = p:=⟨_, rfl⟩
 obtain ⟨p7, hp7⟩ : ∃ p, decide (g.mode = 2) = p:=⟨_, rfl⟩
 simp only [hp0, hp1, hp2, hp3, hp4, hp5, hp6, hp7] at HV m1 m2
 cases p0
 ·go_enter Try.func49, Try.ntmps49
  go_wp2
  go_ret
  exact ⟨ret_bool (by rw [HV.out];first | rfl | simp), HB.out _⟩
 ·skip
  cases p1
  ·go_enter Try.func49, Try.ntmps49
   go_wp2
   go_ret
   exact ⟨ret_bool (by rw [HV.out];first | rfl | simp), HB.out _⟩
  ·skip
   cases p2
   ·go_enter Try.func49, Try.ntmps49
    go_wp2
    go_ret
    exact ⟨ret_bool (by rw [HV.out];first | rfl | simp), HB.out _⟩
   ·skip
    cases p3
    ·go_enter Try.func49, Try.ntmps49
     go_wp2
     go_ret
     exact ⟨ret_bool (by rw [HV.out];first | rfl | simp), HB.out _⟩
    ·skip
     cases p4
     ·go_enter Try.func49, Try.ntmps49
      go_wp2
      go_ret
      exact ⟨ret_bool (by rw [HV.out];first | rfl | simp), HB.out _⟩
     ·skip
      cases p5
      ·go_enter Try.func49, Try.ntmps49
       go_wp2
       go_ret
       exact ⟨ret_bool (by rw [HV.out];first | rfl | simp), HB.out _⟩
      ·skip
       cases p6
       ·go_enter Try.func49, Try.ntmps49
        go_wp2
        go_ret
        exact ⟨ret_bool (by rw [HV.out];first | rfl | simp), HB.out _⟩
       ·go_enter Try.func49, Try.ntmps49
        go_wp2
        go_ret
        exact ⟨ret_bool (by rw [HV.out];first | rfl | simp), HB.out _⟩
end Go.Proofs.Ytooaldglgkjjgaa
/- what is held in which mode (the reference, chapter 8) -/
namespace Go.Proofs.Ytooaldglgkjjgaa
open Go.RowKit
set_option maxRecDepth 20000
set_option linter.unusedSimpArgs false
set_option linter.unusedVariables false
theorem findK_drop {l : List Gr} {j : Nat} {tx p s : Int} {x : Gr} (hj : l[j]? = some x) : findK (l.drop j) tx p s = if keyB x tx p s = true then some x else findK (l.drop (j + 1)) tx p s:=by
 have hlt:=(List.getElem?_eq_some_iff.1 hj).1
 rw [List.drop_eq_getElem_cons hlt, findK_cons]
 obtain rfl : l[j] = x:=by rw [List.getElem?_eq_getElem hlt] at hj;exact Option.some.inj hj
 rfl
theorem lock_same (x : Gr) (k : Lok) : sameV x.lock k = (decide (x.page = k.page) && decide (x.slot = k.slot)):=by
 rw [Bool.eq_iff_iff, sameV_iff, Bool.and_eq_true, decide_eq_true_eq, decide_eq_true_eq]
 exact ⟨fun h=>⟨congrArg Lok.page h, congrArg Lok.slot h⟩, fun h=>by cases k;show Lok.mk _ _ = Lok.mk _ _;simp only at h;rw [h.1, h.2]⟩
set_option maxHeartbeats 4000000 in
theorem rmode_any {h v : Value} {t : Tb} {R : List Rng} (tx : Int) (k : Lok) (w : World) (ht : TbRd h v t R) (hR : RdIn w R) (hg : GoodTb t) (hk : GoodLk k) :
  Calls Try.prog 51 #[.agg (tbCells h v).toArray, .int .i64 tx, .agg (lkCells k).toArray] w fun e w'=>e = .returned (.int .i64 (modeR t.held tx k.page k.slot)) ∧ Below w.heap.size w w':=by
 obtain ⟨a, cap, rfl, hnc, hcm, hg0⟩:=SlRd.open ht.1 hR
 obtain ⟨a2, cap2, rfl, _, _, _⟩:=SlRd.open ht.2 hR
 have HGe:=Lib.hid hg.held
 have HN:=Lib.hid hg.few.1
 have HK:=Lib.hid hk
 clear ht hR hg hk
 generalize t.held = l at *
 generalize t.wait.length = m at *
 have h1:=((Hp.start w).put 25 (tbCells (.slice a l.length cap) (.slice a2 m cap2))).put 27 (lkCells k)
 simp only [World.size_alloc, List.nil_append, List.cons_append] at h1
 have HS0:=Lib.hid h1
 clear h1
 go_enter Try.func51, Try.ntmps51
 go_wp2_with fail
 go_loopw [7] (fun i wr=>∃ j : Nat, j ≤ l.length ∧ i = .int .i64 j ∧ findK l tx k.page k.slot = findK (l.drop j) tx k.page k.slot ∧ Hp w [.ob w.heap.size 25 (tbCells (.slice a l.length cap) (.slice a2 m cap2)), .ob (w.heap.size + 1) 27 (lkCells k)] wr) (fun i _=>l.length - (intOf i).toNat)
 case atStart=>exact ⟨0, by omega, rfl, rfl, HS0.out⟩
 case round =>
  clear HS0
  obtain ⟨j, hj, rfl, hf, hs⟩:=hrel
  have HY:=Lib.hid hs
  have b0 : wr.cell? ⟨w.heap.size, 0, none⟩ = some (.slice a l.length cap):=hs.at 0 rfl 0 rfl
  have HF:=Lib.hid hf
  clear hs hf
  by_cases hlt : j < l.length
  ·obtain ⟨g, off, rfl, hr⟩:=hg0.out (by omega)
   obtain ⟨x, hx⟩ : ∃ x, l[j]? = some x:=⟨_, List.getElem?_eq_getElem hlt⟩
   have c0 : wr.cell? ⟨g, off + j * 4, none⟩ = some (.int .i64 x.tx):=by have:=hr wr HY.out.old (j * 4 + 0) _ (grRow_at l j x hx 0 _ rfl);exact this
   have c1 : wr.cell? ⟨g, off + j * 4 + 1, none⟩ = some (.int .i64 x.page):=by have:=hr wr HY.out.old (j * 4 + 1) _ (grRow_at l j x hx 1 _ rfl);exact this
   have c2 : wr.cell? ⟨g, off + j * 4 + 2, none⟩ = some (.int .i64 x.slot):=by have:=hr wr HY.out.old (j * 4 + 2) _ (grRow_at l j x hx 2 _ rfl);exact this
   have c3 : wr.cell? ⟨g, off + j * 4 + 3, none⟩ = some (.int .i64 x.mode):=by have:=hr wr HY.out.old (j * 4 + 3) _ (grRow_at l j x hx 3 _ rfl);exact this
   have k0 : wr.cell? ⟨w.heap.size + 1, 0, none⟩ = some (.int .i64 k.page):=HY.out.at 1 rfl 0 rfl
   have k1 : wr.cell? ⟨w.heap.size + 1, 1, none⟩ = some (.int .i64 k.slot):=HY.out.at 1 rfl 1 rfl
   have hq : ∀ W, Sem.run Try.prog (binOp .eql 27 (.agg #[.int .i64 x.page, .int .i64 x.slot]) (.agg #[.int .i64 k.page, .int .i64 k.slot])) W = .ok (.bool (sameV x.lock k)) W:=fun W=>run_eql (equal_lk x.lock k (HGe.out x (List.mem_of_getElem? hx)).lock HK.out) W
   have hji : (j : Int) < (l.length : Int):=by omega
   have hj0 : (0 : Int) ≤ (j : Int):=by omega
   have hnm : (l.length : Int) ≤ 100000:=by have:=HN.out;omega
   have HD:=Lib.hid (findK_drop (tx:=tx) (p:=k.page) (s:=k.slot) hx)
   have HL:=Lib.hid hlt
   clear hr hg0 hx
   have hss : sameV x.lock k = (decide (x.page = k.page) && decide (x.slot = k.slot)):=lock_same x k
   by_cases hx : x.tx = tx
   ·obtain ⟨e1, n1⟩:=eq_facts hx
    cases hs : sameV x.lock k
    ·have HK2 : Hid (keyB x tx k.page k.slot = false):=Lib.hid (by unfold keyB;rw [← hss, hs];simp)
     rw [hs] at hq
     clear hx hss hs
     go_wp2_with fail
     go_quiet (fail)
     have HY2:=Lib.hid (HY.out.drewN nq)
     clear b0 c0 c1 c2 c3 k0 k1 HY
     generalize wr.drewN nq = w2 at *
     go_wp2_with fail
     go_roundw
     case rel=>exact ⟨j + 1, HL.out, by go_num, by rw [HF.out, HD.out, HK2.out];rfl, HY2.out⟩
     case measure=>simp [intOf];try (have:=HL.out;omega)
    ·have HK2 : Hid (keyB x tx k.page k.slot = true):=Lib.hid (by unfold keyB;rw [← hss, hs];simp [hx])
     rw [hs] at hq
     clear hx hss hs
     go_wp2_with fail
     go_quiet (fail)
     have HY2:=Lib.hid (HY.out.drewN nq)
     have HVal : Hid (modeR l tx k.page k.slot = x.mode):=Lib.hid (by unfold modeR;rw [HF.out, HD.out, HK2.out];rfl)
     clear HY
     go_wp2_with fail
     go_ret
     exact ⟨by rw [HVal.out];rfl, HY2.out.old⟩
   ·obtain ⟨e1, n1⟩:=ne_facts hx
    have HK2 : Hid (keyB x tx k.page k.slot = false):=Lib.hid (by unfold keyB;rw [decide_eq_false hx];rfl)
    clear hx hss
    go_wp2_with fail
    go_quiet (fail)
    have HY2:=Lib.hid (HY.out.drewN nq)
    clear b0 c0 c1 c2 c3 k0 k1 HY
    generalize wr.drewN nq = w2 at *
    go_wp2_with fail
    go_roundw
    case rel=>exact ⟨j + 1, HL.out, by go_num, by rw [HF.out, HD.out, HK2.out];rfl, HY2.out⟩
    case measure=>simp [intOf];try (have:=HL.out;omega)
  ·obtain rfl : j = l.length:=by omega
   have HVal : Hid (modeR l tx k.page k.slot = 0):=Lib.hid (by unfold modeR;rw [HF.out, List.drop_length];rfl)
   clear hlt hj HF
   go_wp2_with fail
   go_ret
   exact ⟨by rw [HVal.out];rfl, HY.out.old⟩
end Go.Proofs.Ytooaldglgkjjgaa
/- when a table is valid, grant by grant -/
namespace Go.Proofs.Ytooaldglgkjjgaa
set_option maxRecDepth 20000

theorem held_snoc {a : List Gr} {x : Gr} (h : HeldOk a) (hx : GrOk x) (hu : ∀ y, a.getLast? = some y → GLt y x) (hf : ∀ y ∈ a, ¬ Conf y x) : HeldOk (a ++ [x]):=by
  have hall : ∀ y ∈ a, GLt y x:=by
    rcases List.eq_nil_or_concat a with rfl | ⟨b, z, rfl⟩
    · intro y hy;cases hy
    · have hz:=hu z (by simp)
      have hp:=h.up
      rw [List.concat_eq_append, List.pairwise_append] at hp
      intro y hy
      rw [List.concat_eq_append] at hy
      rcases List.mem_append.1 hy with hy | hy
      · exact (hp.2.2 y hy z (by simp)).trans hz
      · rw [List.mem_singleton.1 hy];exact hz
  refine ⟨fun g hg=>?_, ?_, ?_⟩
  · rcases List.mem_append.1 hg with hg | hg
    · exact h.ok g hg
    · rw [List.mem_singleton.1 hg];exact hx
  · rw [List.pairwise_append]
    exact ⟨h.up, List.pairwise_singleton _ _, fun y hy z hz=>by rw [List.mem_singleton.1 hz];exact hall y hy⟩
  · rw [List.pairwise_append]
    exact ⟨h.free, List.pairwise_singleton _ _, fun y hy z hz=>by rw [List.mem_singleton.1 hz];exact hf y hy⟩
theorem heldOk_nil : HeldOk []:=⟨fun g hg=>(by cases hg), .nil, .nil⟩
theorem lk_take_snoc {l : List Gr} {i : Nat} {x : Gr} (hx : l[i]? = some x) : l.take (i + 1) = l.take i ++ [x]:=by
  have hlt:=(List.getElem?_eq_some_iff.1 hx).1
  rw [List.take_succ_eq_append_getElem hlt, (List.getElem?_eq_some_iff.1 hx).2]
theorem last_take {l : List Gr} {i p : Nat} (hip : i = p + 1) {y : Gr} (hy : l[p]? = some y) : (l.take i).getLast? = some y:=by
  subst hip;rw [lk_take_snoc hy];simp
/-- what follows of the order, once a neighbour has another lock -/
theorem apart_below {l : List Gr} {i q p : Nat} {x y : Gr} (h : HeldOk (l.take i)) (hx : l[i]? = some x) (hq : q = p + 1) (hqi : q ≤ i) (hy : l[p]? = some y) (hu : ∀ z, (l.take i).getLast? = some z → GLt z x) (hne : ¬ (y.page = x.page ∧ y.slot = x.slot)) (hf : ∀ k, q ≤ k → k < i → ∀ z, l[k]? = some z → ¬ Conf z x) : ∀ z ∈ l.take i, ¬ Conf z x:=by
  intro z hz hc
  obtain ⟨k, hk, hkz⟩:=List.getElem_of_mem hz
  have hki : k < i:=by rw [List.length_take] at hk;omega
  have hlk : l[k]? = some z:=by rw [← hkz, List.getElem_take, List.getElem?_eq_getElem]
  have hup:=h.up
  have hyi : y ∈ l.take i:=List.mem_iff_getElem?.2 ⟨p, by rw [List.getElem?_take_of_lt (by omega)];exact hy⟩
  have hlt : GLt y x:=by
    obtain ⟨j, rfl⟩ : ∃ j, i = j + 1:=⟨i - 1, by omega⟩
    obtain ⟨w, hw⟩ : ∃ w, l[j]? = some w:=⟨_, List.getElem?_eq_getElem (by have:=(List.getElem?_eq_some_iff.1 hx).1;omega)⟩
    have hwx:=hu w (last_take rfl hw)
    rcases Nat.lt_or_ge p j with hpj | hpj
    · rw [lk_take_snoc hw, List.pairwise_append] at hup
      have hy2 : y ∈ l.take j:=List.mem_iff_getElem?.2 ⟨p, by rw [List.getElem?_take_of_lt hpj];exact hy⟩
      exact (hup.2.2 y hy2 w (by simp)).trans hwx
    · obtain rfl : p = j:=by omega
      rw [hy] at hw
      obtain rfl:=Option.some.inj hw
      exact hwx
  rcases Nat.lt_or_ge k q with h1 | h1
  · rcases Nat.lt_or_ge k p with h2 | h2
    · have hzy : GLt z y:=by
        have h3:=List.pairwise_iff_getElem.1 hup k p hk (by rw [List.length_take] at hk ⊢;have:=(List.getElem?_eq_some_iff.1 hy).1;omega) h2
        rw [hkz, List.getElem_take, (List.getElem?_eq_some_iff.1 hy).2] at h3
        exact h3
      have:=hc.2.1
      have:=hc.2.2.1
      unfold GLt at hzy hlt
      omega
    · obtain rfl : k = p:=by omega
      rw [hlk] at hy
      obtain rfl:=Option.some.inj hy
      exact hne ⟨hc.2.1, hc.2.2.1⟩
  · exact hf k h1 hki z hlk hc
theorem apart_all {l : List Gr} {i : Nat} {x : Gr} (hf : ∀ k, 0 ≤ k → k < i → ∀ z, l[k]? = some z → ¬ Conf z x) : ∀ z ∈ l.take i, ¬ Conf z x:=by
  intro z hz
  obtain ⟨k, hk, hkz⟩:=List.getElem_of_mem hz
  refine hf k (Nat.zero_le _) (by rw [List.length_take] at hk;omega) z ?_
  rw [← hkz, List.getElem_take, List.getElem?_eq_getElem]
theorem no_len {t : Tb} (h : (1024 : Int) < (t.held.length : Int) + (t.wait.length : Int)) : tbOkB t = false:=tbOkB_false.2 fun k=>by have:=k.few;omega
theorem no_held {t : Tb} (h : ¬ HeldOk t.held) : tbOkB t = false:=tbOkB_false.2 fun k=>h k.tin.held
theorem no_grant {t : Tb} {i : Nat} {x : Gr} (hx : t.held[i]? = some x) (h : grOkB x = false) : tbOkB t = false:=no_held fun k=>by
  have:=grOkB_iff.2 (k.ok x (List.mem_of_getElem? hx));rw [h] at this;cases this
theorem no_less {t : Tb} {i p : Nat} {x y : Gr} (hx : t.held[i]? = some x) (hip : i = p + 1) (hy : t.held[p]? = some y) (h : ltB y x = false) : tbOkB t = false:=no_held fun k=>by
  have h3:=List.pairwise_iff_getElem.1 k.up p i (List.getElem?_eq_some_iff.1 hy).1 (List.getElem?_eq_some_iff.1 hx).1 (by omega)
  rw [(List.getElem?_eq_some_iff.1 hy).2, (List.getElem?_eq_some_iff.1 hx).2] at h3
  rw [ltB_iff.2 h3] at h;cases h
theorem no_conf {t : Tb} {i p : Nat} {x y : Gr} (hx : t.held[i]? = some x) (hip : p < i) (hy : t.held[p]? = some y) (h : confB y x = true) : tbOkB t = false:=no_held fun k=>by
  have h3:=List.pairwise_iff_getElem.1 k.free p i (List.getElem?_eq_some_iff.1 hy).1 (List.getElem?_eq_some_iff.1 hx).1 hip
  rw [(List.getElem?_eq_some_iff.1 hy).2, (List.getElem?_eq_some_iff.1 hx).2] at h3
  exact h3 (confB_iff.1 h)
theorem no_wait {t : Tb} (h : ¬ WaitOk t.held t.wait) : tbOkB t = false:=tbOkB_false.2 fun k=>h k.tin.wait
theorem no_wgrant {t : Tb} {i : Nat} {x : Gr} (hx : t.wait[i]? = some x) (h : grOkB x = false) : tbOkB t = false:=no_wait fun k=>by
  have:=grOkB_iff.2 (k.ok x (List.mem_of_getElem? hx)).1;rw [h] at this;cases this
theorem no_wmode {t : Tb} {i : Nat} {x : Gr} (hx : t.wait[i]? = some x) (h : x.mode ≤ modeR t.held x.tx x.page x.slot) : tbOkB t = false:=no_wait fun k=>by
  have h1 : modeR t.held x.tx x.page x.slot < x.mode:=(k.ok x (List.mem_of_getElem? hx)).2
  omega
theorem no_wtwo {t : Tb} {i p : Nat} {x y : Gr} (hx : t.wait[i]? = some x) (hip : p < i) (hy : t.wait[p]? = some y) (h : y.tx = x.tx) : tbOkB t = false:=no_wait fun k=>by
  have h3:=List.pairwise_iff_getElem.1 k.one p i (List.getElem?_eq_some_iff.1 hy).1 (List.getElem?_eq_some_iff.1 hx).1 hip
  rw [(List.getElem?_eq_some_iff.1 hy).2, (List.getElem?_eq_some_iff.1 hx).2] at h3
  exact h3 h
theorem wait_snoc {h a : List Gr} {x : Gr} (k : WaitOk h a) (hx : GrOk x) (hm : modeR h x.tx x.page x.slot < x.mode) (hf : ∀ y ∈ a, y.tx ≠ x.tx) : WaitOk h (a ++ [x]):=by
  refine ⟨fun g hg=>?_, ?_⟩
  · rcases List.mem_append.1 hg with hg | hg
    · exact k.ok g hg
    · rw [List.mem_singleton.1 hg];exact ⟨hx, hm⟩
  · rw [List.pairwise_append]
    exact ⟨k.one, List.pairwise_singleton _ _, fun y hy z hz=>by rw [List.mem_singleton.1 hz];exact hf y hy⟩
theorem waitOk_nil (h : List Gr) : WaitOk h []:=⟨fun g hg=>(by cases hg), .nil⟩
theorem mem_take_of {l : List Gr} {i : Nat} {P : Gr → Prop} (hf : ∀ k, k < i → ∀ z, l[k]? = some z → P z) : ∀ z ∈ l.take i, P z:=by
  intro z hz
  obtain ⟨k, hk, hkz⟩:=List.getElem_of_mem hz
  refine hf k (by rw [List.length_take] at hk;omega) z ?_
  rw [← hkz, List.getElem_take, List.getElem?_eq_getElem]
end Go.Proofs.Ytooaldglgkjjgaa
/- the reference's Valid of a lock table -/
namespace Go.Proofs.Ytooaldglgkjjgaa
open Go.RowKit
open Go.Act renaming put → z0
open List renaming setIfInBounds_toArray → z1, set_cons_zero → z2, set_cons_succ → z3
set_option maxRecDepth 20000
set_option linter.unusedSimpArgs false
set_option linter.unusedVariables false

abbrev qRfLk3_0 : Oper:={ dst:=some 23, op:=Op.fieldAddr 25 (Operand.tmp 1) 0, type:=0, pos := "ref.go:43", after:=#[], guard:=none }
abbrev qRfLk3_1 : Oper:={ dst:=some 24, op:=Op.load 23 (Operand.tmp 23), type:=23, pos := "ref.go:43", after:=#[{ on:=0, ground:=Ground.data }], guard:=none }
abbrev qRfLk3_2 : Oper:={ dst:=some 25, op:=Op.move (Operand.tmp 3), type:=3, pos := "ref.go:43", after:=#[], guard:=none }
abbrev qRfLk3_3 : Oper:={ dst:=some 26, op:=Op.indexAddr 23 (Operand.tmp 24) (Operand.tmp 25), type:=0, pos := "ref.go:43", after:=#[{ on:=1, ground:=Ground.data }, { on:=2, ground:=Ground.data }], guard:=none }
abbrev qRfLk3_4 : Oper:={ dst:=some 27, op:=Op.load 29 (Operand.tmp 26), type:=29, pos := "ref.go:43", after:=#[{ on:=3, ground:=Ground.data }], guard:=none }
abbrev qRfLk3_5 : Oper:={ dst:=some 28, op:=Op.call { callee:=Callee.value (Operand.func 49), args:=#[Operand.tmp 27], argTypes:=#[29] }, type:=4, pos := "ref.go:43", after:=#[{ on:=4, ground:=Ground.data }], guard:=none }
abbrev qRfLk3_6 : Oper:={ dst:=some 29, op:=Op.unOp UnOp.not 4 (Operand.tmp 28), type:=4, pos := "ref.go:43", after:=#[{ on:=5, ground:=Ground.data }], guard:=none }
abbrev qRfLk3_7 : Oper:={ dst:=some 30, op:=Op.move (Operand.tmp 29), type:=4, pos := "ref.go:43", after:=#[{ on:=6, ground:=Ground.data }, { on:=5, ground:=Ground.chain }], guard:=none }
abbrev qRfLk3_8 : Oper:={ dst:=some 31, op:=Op.move (Operand.tmp 3), type:=3, pos := "ref.go:43", after:=#[{ on:=7, ground:=Ground.guard }], guard:=some (7, false) }
abbrev qRfLk3_9 : Oper:={ dst:=some 32, op:=Op.binOp BinOp.gtr 3 (Operand.tmp 31) (Operand.const (Value.int IntKind.i64 0)) 3, type:=4, pos := "ref.go:43", after:=#[{ on:=8, ground:=Ground.data }, { on:=7, ground:=Ground.guard }], guard:=some (7, false) }
abbrev qRfLk3_10 : Oper:={ dst:=some 33, op:=Op.move (Operand.tmp 32), type:=4, pos := "ref.go:43", after:=#[{ on:=9, ground:=Ground.data }, { on:=7, ground:=Ground.chain }, { on:=7, ground:=Ground.guard }], guard:=some (7, false) }
abbrev qRfLk3_11 : Oper:={ dst:=some 34, op:=Op.fieldAddr 25 (Operand.tmp 1) 0, type:=0, pos := "ref.go:43", after:=#[{ on:=10, ground:=Ground.guard }], guard:=some (10, true) }
abbrev qRfLk3_12 : Oper:={ dst:=some 35, op:=Op.load 23 (Operand.tmp 34), type:=23, pos := "ref.go:43", after:=#[{ on:=11, ground:=Ground.data }, { on:=10, ground:=Ground.guard }], guard:=some (10, true) }
abbrev qRfLk3_13 : Oper:={ dst:=some 36, op:=Op.move (Operand.tmp 3), type:=3, pos := "ref.go:43", after:=#[{ on:=10, ground:=Ground.guard }], guard:=some (10, true) }
abbrev qRfLk3_14 : Oper:={ dst:=some 37, op:=Op.binOp BinOp.sub 3 (Operand.tmp 36) (Operand.const (Value.int IntKind.i64 1)) 3, type:=3, pos := "ref.go:43", after:=#[{ on:=13, ground:=Ground.data }, { on:=10, ground:=Ground.guard }], guard:=some (10, true) }
abbrev qRfLk3_15 : Oper:={ dst:=some 38, op:=Op.indexAddr 23 (Operand.tmp 35) (Operand.tmp 37), type:=0, pos := "ref.go:43", after:=#[{ on:=12, ground:=Ground.data }, { on:=14, ground:=Ground.data }, { on:=10, ground:=Ground.guard }], guard:=some (10, true) }
abbrev qRfLk3_16 : Oper:={ dst:=some 39, op:=Op.load 29 (Operand.tmp 38), type:=29, pos := "ref.go:43", after:=#[{ on:=15, ground:=Ground.data }, { on:=10, ground:=Ground.guard }], guard:=some (10, true) }
abbrev qRfLk3_17 : Oper:={ dst:=some 40, op:=Op.fieldAddr 25 (Operand.tmp 1) 0, type:=0, pos := "ref.go:43", after:=#[{ on:=10, ground:=Ground.guard }], guard:=some (10, true) }
abbrev qRfLk3_18 : Oper:={ dst:=some 41, op:=Op.load 23 (Operand.tmp 40), type:=23, pos := "ref.go:43", after:=#[{ on:=17, ground:=Ground.data }, { on:=10, ground:=Ground.guard }], guard:=some (10, true) }
abbrev qRfLk3_19 : Oper:={ dst:=some 42, op:=Op.move (Operand.tmp 3), type:=3, pos := "ref.go:43", after:=#[{ on:=10, ground:=Ground.guard }], guard:=some (10, true) }
abbrev qRfLk3_20 : Oper:={ dst:=some 43, op:=Op.indexAddr 23 (Operand.tmp 41) (Operand.tmp 42), type:=0, pos := "ref.go:43", after:=#[{ on:=18, ground:=Ground.data }, { on:=19, ground:=Ground.data }, { on:=10, ground:=Ground.guard }], guard:=some (10, true) }
abbrev qRfLk3_21 : Oper:={ dst:=some 44, op:=Op.load 29 (Operand.tmp 43), type:=29, pos := "ref.go:43", after:=#[{ on:=20, ground:=Ground.data }, { on:=10, ground:=Ground.guard }], guard:=some (10, true) }
abbrev qRfLk3_22 : Oper:={ dst:=some 45, op:=Op.call { callee:=Callee.value (Operand.func 50), args:=#[Operand.tmp 39, Operand.tmp 44], argTypes:=#[29, 29] }, type:=4, pos := "ref.go:43", after:=#[{ on:=16, ground:=Ground.data }, { on:=21, ground:=Ground.data }, { on:=10, ground:=Ground.chain }, { on:=10, ground:=Ground.guard }], guard:=some (10, true) }
abbrev qRfLk3_23 : Oper:={ dst:=some 46, op:=Op.unOp UnOp.not 4 (Operand.tmp 45), type:=4, pos := "ref.go:43", after:=#[{ on:=22, ground:=Ground.data }, { on:=10, ground:=Ground.guard }], guard:=some (10, true) }
abbrev qRfLk3_24 : Oper:={ dst:=some 47, op:=Op.pick (Operand.tmp 33) (Operand.tmp 46) (Operand.const (Value.bool false)), type:=4, pos := "ref.go:43", after:=#[{ on:=10, ground:=Ground.data }, { on:=23, ground:=Ground.data }, { on:=7, ground:=Ground.guard }], guard:=some (7, false) }
abbrev qRfLk3_25 : Oper:={ dst:=some 48, op:=Op.pick (Operand.tmp 30) (Operand.const (Value.bool true)) (Operand.tmp 47), type:=4, pos := "ref.go:43", after:=#[{ on:=7, ground:=Ground.data }, { on:=24, ground:=Ground.data }], guard:=none }
abbrev qRfLk3_26 : Oper:={ dst:=some 70, op:=Op.fieldAddr 25 (Operand.tmp 1) 0, type:=0, pos := "ref.go:47", after:=#[], guard:=none }
abbrev qRfLk3_27 : Oper:={ dst:=some 71, op:=Op.load 23 (Operand.tmp 70), type:=23, pos := "ref.go:47", after:=#[{ on:=0, ground:=Ground.data }], guard:=none }
abbrev qRfLk3_28 : Oper:={ dst:=some 72, op:=Op.move (Operand.tmp 4), type:=3, pos := "ref.go:47", after:=#[], guard:=none }
abbrev qRfLk3_29 : Oper:={ dst:=some 73, op:=Op.indexAddr 23 (Operand.tmp 71) (Operand.tmp 72), type:=0, pos := "ref.go:47", after:=#[{ on:=1, ground:=Ground.data }, { on:=2, ground:=Ground.data }], guard:=none }
abbrev qRfLk3_30 : Oper:={ dst:=some 74, op:=Op.load 29 (Operand.tmp 73), type:=29, pos := "ref.go:47", after:=#[{ on:=3, ground:=Ground.data }], guard:=none }
abbrev qRfLk3_31 : Oper:={ dst:=some 75, op:=Op.fieldAddr 25 (Operand.tmp 1) 0, type:=0, pos := "ref.go:47", after:=#[], guard:=none }
abbrev qRfLk3_32 : Oper:={ dst:=some 76, op:=Op.load 23 (Operand.tmp 75), type:=23, pos := "ref.go:47", after:=#[{ on:=5, ground:=Ground.data }], guard:=none }
abbrev qRfLk3_33 : Oper:={ dst:=some 77, op:=Op.move (Operand.tmp 3), type:=3, pos := "ref.go:47", after:=#[], guard:=none }
abbrev qRfLk3_34 : Oper:={ dst:=some 78, op:=Op.indexAddr 23 (Operand.tmp 76) (Operand.tmp 77), type:=0, pos := "ref.go:47", after:=#[{ on:=6, ground:=Ground.data }, { on:=7, ground:=Ground.data }], guard:=none }
abbrev qRfLk3_35 : Oper:={ dst:=some 79, op:=Op.load 29 (Operand.tmp 78), type:=29, pos := "ref.go:47", after:=#[{ on:=8, ground:=Ground.data }], guard:=none }
abbrev qRfLk3_36 : Oper:={ dst:=some 80, op:=Op.call { callee:=Callee.value (Operand.func 34), args:=#[Operand.tmp 74, Operand.tmp 79], argTypes:=#[29, 29] }, type:=4, pos := "ref.go:47", after:=#[{ on:=4, ground:=Ground.data }, { on:=9, ground:=Ground.data }], guard:=none }
abbrev qRfLk3_37 : Oper:={ dst:=some 93, op:=Op.load 29 (Operand.tmp 6), type:=29, pos := "ref.go:54", after:=#[], guard:=none }
abbrev qRfLk3_38 : Oper:={ dst:=some 94, op:=Op.call { callee:=Callee.value (Operand.func 49), args:=#[Operand.tmp 93], argTypes:=#[29] }, type:=4, pos := "ref.go:54", after:=#[{ on:=0, ground:=Ground.data }], guard:=none }
abbrev qRfLk3_39 : Oper:={ dst:=some 95, op:=Op.unOp UnOp.not 4 (Operand.tmp 94), type:=4, pos := "ref.go:54", after:=#[{ on:=1, ground:=Ground.data }], guard:=none }
abbrev qRfLk3_40 : Oper:={ dst:=some 96, op:=Op.move (Operand.tmp 95), type:=4, pos := "ref.go:54", after:=#[{ on:=2, ground:=Ground.data }, { on:=1, ground:=Ground.chain }], guard:=none }
abbrev qRfLk3_41 : Oper:={ dst:=some 97, op:=Op.load 25 (Operand.tmp 1), type:=25, pos := "ref.go:54", after:=#[{ on:=3, ground:=Ground.guard }], guard:=some (3, false) }
abbrev qRfLk3_42 : Oper:={ dst:=some 98, op:=Op.fieldAddr 29 (Operand.tmp 6) 0, type:=0, pos := "ref.go:54", after:=#[{ on:=3, ground:=Ground.guard }], guard:=some (3, false) }
abbrev qRfLk3_43 : Oper:={ dst:=some 99, op:=Op.load 3 (Operand.tmp 98), type:=3, pos := "ref.go:54", after:=#[{ on:=5, ground:=Ground.data }, { on:=3, ground:=Ground.guard }], guard:=some (3, false) }
abbrev qRfLk3_44 : Oper:={ dst:=some 100, op:=Op.fieldAddr 29 (Operand.tmp 6) 1, type:=0, pos := "ref.go:54", after:=#[{ on:=3, ground:=Ground.guard }], guard:=some (3, false) }
abbrev qRfLk3_45 : Oper:={ dst:=some 101, op:=Op.load 27 (Operand.tmp 100), type:=27, pos := "ref.go:54", after:=#[{ on:=7, ground:=Ground.data }, { on:=3, ground:=Ground.guard }], guard:=some (3, false) }
abbrev qRfLk3_46 : Oper:={ dst:=some 103, op:=Op.fieldAddr 29 (Operand.tmp 6) 2, type:=0, pos := "ref.go:54", after:=#[{ on:=3, ground:=Ground.guard }], guard:=some (3, false) }
abbrev qRfLk3_47 : Oper:={ dst:=some 104, op:=Op.load 3 (Operand.tmp 103), type:=3, pos := "ref.go:54", after:=#[{ on:=10, ground:=Ground.data }, { on:=3, ground:=Ground.guard }], guard:=some (3, false) }
abbrev qRfLk3_48 : Oper:={ dst:=some 102, op:=Op.call { callee:=Callee.value (Operand.func 51), args:=#[Operand.tmp 97, Operand.tmp 99, Operand.tmp 101], argTypes:=#[25, 3, 27] }, type:=3, pos := "ref.go:54", after:=#[{ on:=4, ground:=Ground.data }, { on:=6, ground:=Ground.data }, { on:=8, ground:=Ground.data }, { on:=3, ground:=Ground.chain }, { on:=3, ground:=Ground.guard }], guard:=some (3, false) }
abbrev qRfLk3_49 : Oper:={ dst:=some 105, op:=Op.binOp BinOp.geq 3 (Operand.tmp 102) (Operand.tmp 104) 3, type:=4, pos := "ref.go:54", after:=#[{ on:=9, ground:=Ground.data }, { on:=11, ground:=Ground.data }, { on:=3, ground:=Ground.guard }], guard:=some (3, false) }
abbrev qRfLk3_50 : Oper:={ dst:=some 106, op:=Op.pick (Operand.tmp 96) (Operand.const (Value.bool true)) (Operand.tmp 105), type:=4, pos := "ref.go:54", after:=#[{ on:=3, ground:=Ground.data }, { on:=12, ground:=Ground.data }], guard:=none }
set_option maxHeartbeats 8000000 in
theorem rlkvalid_any {h v : Value} {t : Tb} {R : List Rng} (w : World) (ht : TbRd h v t R) (hR : RdIn w R) (hg : GoodTb t) :
  Calls Try.prog 25 #[.agg (tbCells h v).toArray] w fun e w'=>e = .returned (.bool (tbOkB t)) ∧ Below w.heap.size w w':=by
 have HMd : Hid (∀ W, Below w.heap.size w W → ∀ tx k, GoodLk k → Calls Try.prog 51 #[.agg (tbCells h v).toArray, .int .i64 tx, .agg (lkCells k).toArray] W fun e w'=>e = .returned (.int .i64 (modeR t.held tx k.page k.slot)) ∧ Below W.heap.size W w'):=fun W hb tx k hk=>rmode_any tx k W ht (hR.below hb) hg hk
 obtain ⟨a, cap, rfl, hnc, hcm, hg0⟩:=SlRd.open ht.1 hR
 obtain ⟨a2, cap2, rfl, hnc2, hcm2, hg2⟩:=SlRd.open ht.2 hR
 have HGe:=Lib.hid hg.held
 have HGw:=Lib.hid hg.wait
 have HN:=Lib.hid hg.few
 have HNo : Hid ((1024 : Int) < (t.held.length : Int) + (t.wait.length : Int) → tbOkB t = false):=fun h=>no_len h
 have HNg : Hid (∀ i x, t.held[i]? = some x → grOkB x = false → tbOkB t = false):=fun i x h1 h2=>no_grant h1 h2
 have HNl : Hid (∀ i p x y, t.held[i]? = some x → i = p + 1 → t.held[p]? = some y → ltB y x = false → tbOkB t = false):=fun i p x y h1 h2 h3 h4=>no_less h1 h2 h3 h4
 have HNc : Hid (∀ i p x y, t.held[i]? = some x → p < i → t.held[p]? = some y → confB y x = true → tbOkB t = false):=fun i p x y h1 h2 h3 h4=>no_conf h1 h2 h3 h4
 have HWg : Hid (∀ i x, t.wait[i]? = some x → grOkB x = false → tbOkB t = false):=fun i x h1 h2=>no_wgrant h1 h2
 have HWm : Hid (∀ i (x : Gr), t.wait[i]? = some x → x.mode ≤ modeR t.held x.tx x.page x.slot → tbOkB t = false):=fun i x h1 h2=>no_wmode h1 h2
 have HWt : Hid (∀ i p (x y : Gr), t.wait[i]? = some x → p < i → t.wait[p]? = some y → y.tx = x.tx → tbOkB t = false):=fun i p x y h1 h2 h3 h4=>no_wtwo h1 h2 h3 h4
 have HOk : Hid ((t.held.length : Int) + (t.wait.length : Int) ≤ 1024 → HeldOk t.held → WaitOk t.held t.wait → tbOkB t = true):=fun h1 h2 h3=>tbOkB_iff.2 ⟨by omega, h2, h3⟩
 clear ht hR hg
 generalize tbOkB t = ok at *
 generalize t.held = l at *
 generalize t.wait = m at *
 have h1:=(Hp.start w).put 25 (tbCells (.slice a l.length cap) (.slice a2 m.length cap2))
 simp only [List.nil_append] at h1
 have HS0 : Hid (Hp w [.ob w.heap.size 25 (tbCells (.slice a l.length cap) (.slice a2 m.length cap2))] (w.alloc (.cells (tbCells (.slice a l.length cap) (.slice a2 m.length cap2)).toArray 25))):=h1
 clear h1
 obtain ⟨fsHUG, huHUG⟩:=under_gr
 have HUG:=Lib.hid huHUG
 clear huHUG
 obtain ⟨fsHUK, huHUK⟩:=under_lk
 have HUK:=Lib.hid huHUK
 clear huHUK
 obtain ⟨fsHUT, huHUT⟩:=under_tb
 have HUT:=Lib.hid huHUT
 clear huHUT
 have hnm : (l.length : Int) ≤ 100000 ∧ (m.length : Int) ≤ 100000:=by have:=HN.out;omega
 obtain ⟨hn1, hm1⟩:=hnm
 have hn0 : (0 : Int) ≤ (l.length : Int):=by omega
 have hm0 : (0 : Int) ≤ (m.length : Int):=by omega
 have hsum : IntKind.i64.wrap ((l.length : Int) + (m.length : Int)) = (l.length : Int) + (m.length : Int):=IntWalk.i64_in _ (by omega)
 go_enter Try.func25, Try.ntmps25
 go_upto_region 1 with (fail)
 generalize (w.alloc (.cells (tbCells (.slice a l.length cap) (.slice a2 m.length cap2)).toArray 25)) = w1 at *
 have b0 : w1.cell? ⟨w.heap.size, 0, none⟩ = some (.slice a l.length cap):=HS0.out.at 0 rfl 0 rfl
 have b1 : w1.cell? ⟨w.heap.size, 1, none⟩ = some (.slice a2 m.length cap2):=HS0.out.at 0 rfl 1 rfl
 by_cases hl : 1024 < (l.length : Int) + (m.length : Int)
 ·have HX:=Lib.hid (HNo.out hl)
  have dl : decide (1024 < (l.length : Int) + (m.length : Int)) = true:=decide_eq_true hl
  clear hl
  go_wp2_with fail
  go_ret
  exact ⟨by rw [HX.out];rfl, HS0.out.old⟩
 have HL : Hid ((l.length : Int) + (m.length : Int) ≤ 1024):=Lib.hid (by omega)
 have dl : decide (1024 < (l.length : Int) + (m.length : Int)) = false:=decide_eq_false hl
 clear hl
 go_wp2_with fail
 clear b0 b1 dl
 go_loopw [3] (fun iv wr=>∃ i : Nat, i ≤ l.length ∧ iv = .int .i64 i ∧ HeldOk (l.take i) ∧ Hp w [.ob w.heap.size 25 (tbCells (.slice a l.length cap) (.slice a2 m.length cap2))] wr) (fun iv _=>l.length - (intOf iv).toNat)
 case atStart=>exact ⟨0, by omega, rfl, heldOk_nil, HS0.out⟩
 case round =>
  clear HS0
  obtain ⟨i, hi, rfl, hh, hs⟩:=hrel
  have HY:=Lib.hid hs
  have HH:=Lib.hid hh
  have b0 : wr.cell? ⟨w.heap.size, 0, none⟩ = some (.slice a l.length cap):=hs.at 0 rfl 0 rfl
  clear hs hh
  by_cases hlt : i < l.length
  ·obtain ⟨g, off, rfl, hr⟩:=hg0.out (by omega)
   have HRg:=Lib.hid hr
   obtain ⟨x, hx⟩ : ∃ x, l[i]? = some x:=⟨_, List.getElem?_eq_getElem hlt⟩
   have HXi:=Lib.hid hx
   have hgx:=HGe.out x (List.mem_of_getElem? hx)
   have HGx:=Lib.hid hgx
   have HGr : Hid (∀ W, Calls Try.prog 49 #[.agg (grCells x).toArray] W fun e w'=>e = .returned (.bool (grOkB x)) ∧ Below W.heap.size W w'):=fun W=>rgrant_any x W
   have HOx:=Lib.hid (@grOkB_iff x)
   have hNx:=HNg.out i x hx
   have hii : (i : Int) < (l.length : Int):=by omega
   have hi0 : (0 : Int) ≤ (i : Int):=by omega
   have HLt:=Lib.hid hlt
   clear hr hgx hi hx
   generalize grOkB x = gb at *
   cases gb
   case false =>
    have HX:=Lib.hid (hNx rfl)
    clear hNx HOx
    go_upto_region 6 with (fail)
    refine wp_region_held_drew (S:=fun w'=>w'.rangeAt w.heap.size 0 (tbCells (.slice (some ⟨g, off, none⟩) l.length cap) (.slice a2 m.length cap2)) ∧ w'.rangeAt g (off + i * 4) (grCells x)) (by kernel_rfl) (⟨(fun j v hv=>by rw [Nat.zero_add];exact ((HY.out).drew).at 0 rfl j hv), (elem_rng (HRg.out _ ((HY.out).drew).old) HXi.out)⟩) (fun hHeld=>?_)
    refine tk 0 qRfLk3_0 (some 23) (v:=?q1v) (Or.inl ⟨by rfl, ?q1h⟩) hHeld ?q1r
    case q1h=>(intro _ h;clear h;go_simp;try with_reducible rfl)
    try simp only [z0, z1, z2, z3]
    refine tk 1 qRfLk3_1 (some 24) (v:=.slice (some ⟨g, off, none⟩) l.length cap) (Or.inl ⟨by rfl, ?q2h⟩) hHeld ?q2r
    case q2h=>(intro wq hSw;have lq:=(hSw.1) 0 (.slice (some ⟨g, off, none⟩) l.length cap) rfl;simp only [Nat.zero_add] at lq;clear hSw;go_simp;try with_reducible rfl)
    try simp only [z0, z1, z2, z3]
    refine tk 2 qRfLk3_2 (some 25) (v:=?q3v) (Or.inl ⟨by rfl, ?q3h⟩) hHeld ?q3r
    case q3h=>(intro _ h;clear h;go_simp;try with_reducible rfl)
    try simp only [z0, z1, z2, z3]
    refine tk 3 qRfLk3_3 (some 26) (v:=?q4v) (Or.inl ⟨by rfl, ?q4h⟩) hHeld ?q4r
    case q4h=>(intro _ h;clear h;go_simp;try with_reducible rfl)
    try simp only [z0, z1, z2, z3]
    refine tk 4 qRfLk3_4 (some 27) (yieldsIf_load_mid (by rfl) 29 (.tmp 26) rfl g (off + i * 4) rfl (grCells x) _ (fun _ h=>h.2) HUG.out rfl (info_gr)) hHeld ?_
    try simp only [z0, z1, z2, z3]
    refine tn 5 qRfLk3_5 (fun K hK=>?_)
    go_simp
    go_wp2_with (go_at_call 49;refine (HGr.out _).mono ?_;rintro e w21 ⟨rfl, hb⟩)
    have HS21 : Hid (Hp w [.ob (w.heap.size) 25 (tbCells (.slice (some ⟨g, off, none⟩) l.length cap) (.slice a2 m.length cap2))] w21):=((HY.out).drew).calls hb
    refine hK.out _ _ (⟨(fun j v hv=>by rw [Nat.zero_add];exact (HS21.out).at 0 rfl j hv), (elem_rng (HRg.out _ (HS21.out).old) HXi.out)⟩) (fun hHeld=>?_)
    clear hK K hb
    try simp only [z0, z1, z2, z3]
    refine tk 6 qRfLk3_6 (some 29) (v:=?q6v) (Or.inl ⟨by rfl, ?q6h⟩) hHeld ?q6r
    case q6h=>(intro _ h;clear h;go_simp;try with_reducible rfl)
    try simp only [z0, z1, z2, z3]
    refine tk 7 qRfLk3_7 (some 30) (v:=?q7v) (Or.inl ⟨by rfl, ?q7h⟩) hHeld ?q7r
    case q7h=>(intro _ h;clear h;go_simp;try with_reducible rfl)
    try simp only [z0, z1, z2, z3]
    refine tk 8 qRfLk3_8 (some 31) (v:=undef) (Or.inr ⟨by rfl, rfl⟩) hHeld ?_
    try simp only [z0, z1, z2, z3]
    refine tk 9 qRfLk3_9 (some 32) (v:=undef) (Or.inr ⟨by rfl, rfl⟩) hHeld ?_
    try simp only [z0, z1, z2, z3]
    refine tk 10 qRfLk3_10 (some 33) (v:=undef) (Or.inr ⟨by rfl, rfl⟩) hHeld ?_
    try simp only [z0, z1, z2, z3]
    refine tk 11 qRfLk3_11 (some 34) (v:=undef) (Or.inr ⟨by rfl, rfl⟩) hHeld ?_
    try simp only [z0, z1, z2, z3]
    refine tk 12 qRfLk3_12 (some 35) (v:=undef) (Or.inr ⟨by rfl, rfl⟩) hHeld ?_
    try simp only [z0, z1, z2, z3]
    refine tk 13 qRfLk3_13 (some 36) (v:=undef) (Or.inr ⟨by rfl, rfl⟩) hHeld ?_
    try simp only [z0, z1, z2, z3]
    refine tk 14 qRfLk3_14 (some 37) (v:=undef) (Or.inr ⟨by rfl, rfl⟩) hHeld ?_
    try simp only [z0, z1, z2, z3]
    refine tk 15 qRfLk3_15 (some 38) (v:=undef) (Or.inr ⟨by rfl, rfl⟩) hHeld ?_
    try simp only [z0, z1, z2, z3]
    refine tk 16 qRfLk3_16 (some 39) (v:=undef) (Or.inr ⟨by rfl, rfl⟩) hHeld ?_
    try simp only [z0, z1, z2, z3]
    refine tk 17 qRfLk3_17 (some 40) (v:=undef) (Or.inr ⟨by rfl, rfl⟩) hHeld ?_
    try simp only [z0, z1, z2, z3]
    refine tk 18 qRfLk3_18 (some 41) (v:=undef) (Or.inr ⟨by rfl, rfl⟩) hHeld ?_
    try simp only [z0, z1, z2, z3]
    refine tk 19 qRfLk3_19 (some 42) (v:=undef) (Or.inr ⟨by rfl, rfl⟩) hHeld ?_
    try simp only [z0, z1, z2, z3]
    refine tk 20 qRfLk3_20 (some 43) (v:=undef) (Or.inr ⟨by rfl, rfl⟩) hHeld ?_
    try simp only [z0, z1, z2, z3]
    refine tk 21 qRfLk3_21 (some 44) (v:=undef) (Or.inr ⟨by rfl, rfl⟩) hHeld ?_
    try simp only [z0, z1, z2, z3]
    refine tn 22 qRfLk3_22 (fun K hK=>?_)
    rw [if_neg (by exact Bool.false_ne_true)]
    have HS22:=HS21
    refine hK.out _ _ (⟨(fun j v hv=>by rw [Nat.zero_add];exact (HS22.out).at 0 rfl j hv), (elem_rng (HRg.out _ (HS22.out).old) HXi.out)⟩) (fun hHeld=>?_)
    clear hK K
    try simp only [z0, z1, z2, z3]
    refine tk 23 qRfLk3_23 (some 46) (v:=undef) (Or.inr ⟨by rfl, rfl⟩) hHeld ?_
    try simp only [z0, z1, z2, z3]
    refine tk 24 qRfLk3_24 (some 47) (v:=undef) (Or.inr ⟨by rfl, rfl⟩) hHeld ?_
    try simp only [z0, z1, z2, z3]
    refine tk 25 qRfLk3_25 (some 48) (v:=?q24v) (Or.inl ⟨by rfl, ?q24h⟩) hHeld ?q24r
    case q24h=>(intro _ h;clear h;go_simp;try with_reducible rfl)
    try simp only [z0, z1, z2, z3]
    refine wpAnyH_done (by kernel_rfl) ?_ _
    go_wp2_with fail
    go_ret
    exact ⟨by rw [HX.out];rfl, HS22.out.old⟩
   case true =>
    have HOk1:=Lib.hid (HOx.out.1 rfl)
    clear hNx HOx
    by_cases hi1 : (0 : Int) < (i : Int)
    ·obtain ⟨p, hip⟩ : ∃ p, i = p + 1:=⟨i - 1, by omega⟩
     have HIp:=Lib.hid hip
     have hpw : IntKind.i64.wrap ((i : Int) - 1) = (p : Int):=by rw [show (i : Int) - 1 = (p : Int) by omega];exact IntWalk.i64_in _ (by omega)
     have hpi : (p : Int) < (l.length : Int):=by omega
     have hp0 : (0 : Int) ≤ (p : Int):=by omega
     obtain ⟨y, hy⟩ : ∃ y, l[p]? = some y:=⟨_, List.getElem?_eq_getElem (by omega)⟩
     have HYp:=Lib.hid hy
     have HLs : Hid (∀ W, Calls Try.prog 50 #[.agg (grCells y).toArray, .agg (grCells x).toArray] W fun e w'=>e = .returned (.bool (ltB y x)) ∧ Below W.heap.size W w'):=fun W=>rless_any y x W
     have HLy:=Lib.hid (@ltB_iff y x)
     have hNx:=HNl.out i p x y HXi.out hip hy
     have dp : decide ((0 : Int) < (i : Int)) = true:=decide_eq_true hi1
     have hi2 : 0 < i:=by omega
     clear hip hy hi1
     generalize ltB y x = lb at *
     cases lb
     case false =>
      have HX:=Lib.hid (hNx rfl)
      clear hNx HLy
      go_upto_region 6 with (fail)
      refine wp_region_held_drew (S:=fun w'=>w'.rangeAt w.heap.size 0 (tbCells (.slice (some ⟨g, off, none⟩) l.length cap) (.slice a2 m.length cap2)) ∧ w'.rangeAt g (off + i * 4) (grCells x) ∧ w'.rangeAt g (off + p * 4) (grCells y)) (by kernel_rfl) (⟨(fun j v hv=>by rw [Nat.zero_add];exact ((HY.out).drew).at 0 rfl j hv), (elem_rng (HRg.out _ ((HY.out).drew).old) HXi.out), (elem_rng (HRg.out _ ((HY.out).drew).old) HYp.out)⟩) (fun hHeld=>?_)
      refine tk 0 qRfLk3_0 (some 23) (v:=?q101v) (Or.inl ⟨by rfl, ?q101h⟩) hHeld ?q101r
      case q101h=>(intro _ h;clear h;go_simp;try with_reducible rfl)
      try simp only [z0, z1, z2, z3]
      refine tk 1 qRfLk3_1 (some 24) (v:=.slice (some ⟨g, off, none⟩) l.length cap) (Or.inl ⟨by rfl, ?q102h⟩) hHeld ?q102r
      case q102h=>(intro wq hSw;have lq:=(hSw.1) 0 (.slice (some ⟨g, off, none⟩) l.length cap) rfl;simp only [Nat.zero_add] at lq;clear hSw;go_simp;try with_reducible rfl)
      try simp only [z0, z1, z2, z3]
      refine tk 2 qRfLk3_2 (some 25) (v:=?q103v) (Or.inl ⟨by rfl, ?q103h⟩) hHeld ?q103r
      case q103h=>(intro _ h;clear h;go_simp;try with_reducible rfl)
      try simp only [z0, z1, z2, z3]
      refine tk 3 qRfLk3_3 (some 26) (v:=?q104v) (Or.inl ⟨by rfl, ?q104h⟩) hHeld ?q104r
      case q104h=>(intro _ h;clear h;go_simp;try with_reducible rfl)
      try simp only [z0, z1, z2, z3]
      refine tk 4 qRfLk3_4 (some 27) (yieldsIf_load_mid (by rfl) 29 (.tmp 26) rfl g (off + i * 4) rfl (grCells x) _ (fun _ h=>h.2.1) HUG.out rfl (info_gr)) hHeld ?_
      try simp only [z0, z1, z2, z3]
      refine tn 5 qRfLk3_5 (fun K hK=>?_)
      go_simp
      go_wp2_with (go_at_call 49;refine (HGr.out _).mono ?_;rintro e w21 ⟨rfl, hb⟩)
      have HS21 : Hid (Hp w [.ob (w.heap.size) 25 (tbCells (.slice (some ⟨g, off, none⟩) l.length cap) (.slice a2 m.length cap2))] w21):=((HY.out).drew).calls hb
      refine hK.out _ _ (⟨(fun j v hv=>by rw [Nat.zero_add];exact (HS21.out).at 0 rfl j hv), (elem_rng (HRg.out _ (HS21.out).old) HXi.out), (elem_rng (HRg.out _ (HS21.out).old) HYp.out)⟩) (fun hHeld=>?_)
      clear hK K hb
      try simp only [z0, z1, z2, z3]
      refine tk 6 qRfLk3_6 (some 29) (v:=?q106v) (Or.inl ⟨by rfl, ?q106h⟩) hHeld ?q106r
      case q106h=>(intro _ h;clear h;go_simp;try with_reducible rfl)
      try simp only [z0, z1, z2, z3]
      refine tk 7 qRfLk3_7 (some 30) (v:=?q107v) (Or.inl ⟨by rfl, ?q107h⟩) hHeld ?q107r
      case q107h=>(intro _ h;clear h;go_simp;try with_reducible rfl)
      try simp only [z0, z1, z2, z3]
      refine tk 8 qRfLk3_8 (some 31) (v:=?q108v) (Or.inl ⟨by rfl, ?q108h⟩) hHeld ?q108r
      case q108h=>(intro _ h;clear h;go_simp;try with_reducible rfl)
      try simp only [z0, z1, z2, z3]
      refine tk 9 qRfLk3_9 (some 32) (v:=.bool true) (Or.inl ⟨by rfl, ?q109h⟩) hHeld ?q109r
      case q109h=>(intro _ h;clear h;go_simp;try with_reducible rfl)
      try simp only [z0, z1, z2, z3]
      refine tk 10 qRfLk3_10 (some 33) (v:=?q110v) (Or.inl ⟨by rfl, ?q110h⟩) hHeld ?q110r
      case q110h=>(intro _ h;clear h;go_simp;try with_reducible rfl)
      try simp only [z0, z1, z2, z3]
      refine tk 11 qRfLk3_11 (some 34) (v:=?q111v) (Or.inl ⟨by rfl, ?q111h⟩) hHeld ?q111r
      case q111h=>(intro _ h;clear h;go_simp;try with_reducible rfl)
      try simp only [z0, z1, z2, z3]
      refine tk 12 qRfLk3_12 (some 35) (v:=.slice (some ⟨g, off, none⟩) l.length cap) (Or.inl ⟨by rfl, ?q112h⟩) hHeld ?q112r
      case q112h=>(intro wq hSw;have lq:=(hSw.1) 0 (.slice (some ⟨g, off, none⟩) l.length cap) rfl;simp only [Nat.zero_add] at lq;clear hSw;go_simp;try with_reducible rfl)
      try simp only [z0, z1, z2, z3]
      refine tk 13 qRfLk3_13 (some 36) (v:=?q113v) (Or.inl ⟨by rfl, ?q113h⟩) hHeld ?q113r
      case q113h=>(intro _ h;clear h;go_simp;try with_reducible rfl)
      try simp only [z0, z1, z2, z3]
      refine tk 14 qRfLk3_14 (some 37) (v:=?q114v) (Or.inl ⟨by rfl, ?q114h⟩) hHeld ?q114r
      case q114h=>(intro _ h;clear h;go_simp;try with_reducible rfl)
      try simp only [z0, z1, z2, z3]
      refine tk 15 qRfLk3_15 (some 38) (v:=?q115v) (Or.inl ⟨by rfl, ?q115h⟩) hHeld ?q115r
      case q115h=>(intro _ h;clear h;go_simp;try with_reducible rfl)
      try simp only [z0, z1, z2, z3]
      refine tk 16 qRfLk3_16 (some 39) (yieldsIf_load_mid (by rfl) 29 (.tmp 38) rfl g (off + p * 4) rfl (grCells y) _ (fun _ h=>h.2.2) HUG.out rfl (info_gr)) hHeld ?_
      try simp only [z0, z1, z2, z3]
      refine tk 17 qRfLk3_17 (some 40) (v:=?q117v) (Or.inl ⟨by rfl, ?q117h⟩) hHeld ?q117r
      case q117h=>(intro _ h;clear h;go_simp;try with_reducible rfl)
      try simp only [z0, z1, z2, z3]
      refine tk 18 qRfLk3_18 (some 41) (v:=.slice (some ⟨g, off, none⟩) l.length cap) (Or.inl ⟨by rfl, ?q118h⟩) hHeld ?q118r
      case q118h=>(intro wq hSw;have lq:=(hSw.1) 0 (.slice (some ⟨g, off, none⟩) l.length cap) rfl;simp only [Nat.zero_add] at lq;clear hSw;go_simp;try with_reducible rfl)
      try simp only [z0, z1, z2, z3]
      refine tk 19 qRfLk3_19 (some 42) (v:=?q119v) (Or.inl ⟨by rfl, ?q119h⟩) hHeld ?q119r
      case q119h=>(intro _ h;clear h;go_simp;try with_reducible rfl)
      try simp only [z0, z1, z2, z3]
      refine tk 20 qRfLk3_20 (some 43) (v:=?q120v) (Or.inl ⟨by rfl, ?q120h⟩) hHeld ?q120r
      case q120h=>(intro _ h;clear h;go_simp;try with_reducible rfl)
      try simp only [z0, z1, z2, z3]
      refine tk 21 qRfLk3_21 (some 44) (yieldsIf_load_mid (by rfl) 29 (.tmp 43) rfl g (off + i * 4) rfl (grCells x) _ (fun _ h=>h.2.1) HUG.out rfl (info_gr)) hHeld ?_
      try simp only [z0, z1, z2, z3]
      refine tn 22 qRfLk3_22 (fun K hK=>?_)
      go_simp
      go_wp2_with (go_at_call 50;refine (HLs.out _).mono ?_;rintro e w22 ⟨rfl, hb⟩)
      have HS22:=Lib.hid ((HS21.out).calls hb)
      refine hK.out _ _ (⟨(fun j v hv=>by rw [Nat.zero_add];exact (HS22.out).at 0 rfl j hv), (elem_rng (HRg.out _ (HS22.out).old) HXi.out), (elem_rng (HRg.out _ (HS22.out).old) HYp.out)⟩) (fun hHeld=>?_)
      clear hK K hb
      try simp only [z0, z1, z2, z3]
      refine tk 23 qRfLk3_23 (some 46) (v:=?q122v) (Or.inl ⟨by rfl, ?q122h⟩) hHeld ?q122r
      case q122h=>(intro _ h;clear h;go_simp;try with_reducible rfl)
      try simp only [z0, z1, z2, z3]
      refine tk 24 qRfLk3_24 (some 47) (v:=?q123v) (Or.inl ⟨by rfl, ?q123h⟩) hHeld ?q123r
      case q123h=>(intro _ h;clear h;go_simp;try with_reducible rfl)
      try simp only [z0, z1, z2, z3]
      refine tk 25 qRfLk3_25 (some 48) (v:=?q124v) (Or.inl ⟨by rfl, ?q124h⟩) hHeld ?q124r
      case q124h=>(intro _ h;clear h;go_simp;try with_reducible rfl)
      try simp only [z0, z1, z2, z3]
      refine wpAnyH_done (by kernel_rfl) ?_ _
      go_wp2_with fail
      go_ret
      exact ⟨by rw [HX.out];rfl, HS22.out.old⟩
     case true =>
      have HLy1:=Lib.hid (HLy.out.1 rfl)
      have HU : Hid (∀ z, (l.take i).getLast? = some z → GLt z x):=fun z hz=>by
       rw [last_take HIp.out HYp.out] at hz
       rw [← Option.some.inj hz];exact HLy1.out
      clear hNx HLy HLy1
      go_upto_region 6 with (fail)
      refine wp_region_held_drew (S:=fun w'=>w'.rangeAt w.heap.size 0 (tbCells (.slice (some ⟨g, off, none⟩) l.length cap) (.slice a2 m.length cap2)) ∧ w'.rangeAt g (off + i * 4) (grCells x) ∧ w'.rangeAt g (off + p * 4) (grCells y)) (by kernel_rfl) (⟨(fun j v hv=>by rw [Nat.zero_add];exact ((HY.out).drew).at 0 rfl j hv), (elem_rng (HRg.out _ ((HY.out).drew).old) HXi.out), (elem_rng (HRg.out _ ((HY.out).drew).old) HYp.out)⟩) (fun hHeld=>?_)
      refine tk 0 qRfLk3_0 (some 23) (v:=?q201v) (Or.inl ⟨by rfl, ?q201h⟩) hHeld ?q201r
      case q201h=>(intro _ h;clear h;go_simp;try with_reducible rfl)
      try simp only [z0, z1, z2, z3]
      refine tk 1 qRfLk3_1 (some 24) (v:=.slice (some ⟨g, off, none⟩) l.length cap) (Or.inl ⟨by rfl, ?q202h⟩) hHeld ?q202r
      case q202h=>(intro wq hSw;have lq:=(hSw.1) 0 (.slice (some ⟨g, off, none⟩) l.length cap) rfl;simp only [Nat.zero_add] at lq;clear hSw;go_simp;try with_reducible rfl)
      try simp only [z0, z1, z2, z3]
      refine tk 2 qRfLk3_2 (some 25) (v:=?q203v) (Or.inl ⟨by rfl, ?q203h⟩) hHeld ?q203r
      case q203h=>(intro _ h;clear h;go_simp;try with_reducible rfl)
      try simp only [z0, z1, z2, z3]
      refine tk 3 qRfLk3_3 (some 26) (v:=?q204v) (Or.inl ⟨by rfl, ?q204h⟩) hHeld ?q204r
      case q204h=>(intro _ h;clear h;go_simp;try with_reducible rfl)
      try simp only [z0, z1, z2, z3]
      refine tk 4 qRfLk3_4 (some 27) (yieldsIf_load_mid (by rfl) 29 (.tmp 26) rfl g (off + i * 4) rfl (grCells x) _ (fun _ h=>h.2.1) HUG.out rfl (info_gr)) hHeld ?_
      try simp only [z0, z1, z2, z3]
      refine tn 5 qRfLk3_5 (fun K hK=>?_)
      go_simp
      go_wp2_with (go_at_call 49;refine (HGr.out _).mono ?_;rintro e w21 ⟨rfl, hb⟩)
      have HS21 : Hid (Hp w [.ob (w.heap.size) 25 (tbCells (.slice (some ⟨g, off, none⟩) l.length cap) (.slice a2 m.length cap2))] w21):=((HY.out).drew).calls hb
      refine hK.out _ _ (⟨(fun j v hv=>by rw [Nat.zero_add];exact (HS21.out).at 0 rfl j hv), (elem_rng (HRg.out _ (HS21.out).old) HXi.out), (elem_rng (HRg.out _ (HS21.out).old) HYp.out)⟩) (fun hHeld=>?_)
      clear hK K hb
      try simp only [z0, z1, z2, z3]
      refine tk 6 qRfLk3_6 (some 29) (v:=?q206v) (Or.inl ⟨by rfl, ?q206h⟩) hHeld ?q206r
      case q206h=>(intro _ h;clear h;go_simp;try with_reducible rfl)
      try simp only [z0, z1, z2, z3]
      refine tk 7 qRfLk3_7 (some 30) (v:=?q207v) (Or.inl ⟨by rfl, ?q207h⟩) hHeld ?q207r
      case q207h=>(intro _ h;clear h;go_simp;try with_reducible rfl)
      try simp only [z0, z1, z2, z3]
      refine tk 8 qRfLk3_8 (some 31) (v:=?q208v) (Or.inl ⟨by rfl, ?q208h⟩) hHeld ?q208r
      case q208h=>(intro _ h;clear h;go_simp;try with_reducible rfl)
      try simp only [z0, z1, z2, z3]
      refine tk 9 qRfLk3_9 (some 32) (v:=.bool true) (Or.inl ⟨by rfl, ?q209h⟩) hHeld ?q209r
      case q209h=>(intro _ h;clear h;go_simp;try with_reducible rfl)
      try simp only [z0, z1, z2, z3]
      refine tk 10 qRfLk3_10 (some 33) (v:=?q210v) (Or.inl ⟨by rfl, ?q210h⟩) hHeld ?q210r
      case q210h=>(intro _ h;clear h;go_simp;try with_reducible rfl)
      try simp only [z0, z1, z2, z3]
      refine tk 11 qRfLk3_11 (some 34) (v:=?q211v) (Or.inl ⟨by rfl, ?q211h⟩) hHeld ?q211r
      case q211h=>(intro _ h;clear h;go_simp;try with_reducible rfl)
      try simp only [z0, z1, z2, z3]
      refine tk 12 qRfLk3_12 (some 35) (v:=.slice (some ⟨g, off, none⟩) l.length cap) (Or.inl ⟨by rfl, ?q212h⟩) hHeld ?q212r
      case q212h=>(intro wq hSw;have lq:=(hSw.1) 0 (.slice (some ⟨g, off, none⟩) l.length cap) rfl;simp only [Nat.zero_add] at lq;clear hSw;go_simp;try with_reducible rfl)
      try simp only [z0, z1, z2, z3]
      refine tk 13 qRfLk3_13 (some 36) (v:=?q213v) (Or.inl ⟨by rfl, ?q213h⟩) hHeld ?q213r
      case q213h=>(intro _ h;clear h;go_simp;try with_reducible rfl)
      try simp only [z0, z1, z2, z3]
      refine tk 14 qRfLk3_14 (some 37) (v:=?q214v) (Or.inl ⟨by rfl, ?q214h⟩) hHeld ?q214r
      case q214h=>(intro _ h;clear h;go_simp;try with_reducible rfl)
      try simp only [z0, z1, z2, z3]
      refine tk 15 qRfLk3_15 (some 38) (v:=?q215v) (Or.inl ⟨by rfl, ?q215h⟩) hHeld ?q215r
      case q215h=>(intro _ h;clear h;go_simp;try with_reducible rfl)
      try simp only [z0, z1, z2, z3]
      refine tk 16 qRfLk3_16 (some 39) (yieldsIf_load_mid (by rfl) 29 (.tmp 38) rfl g (off + p * 4) rfl (grCells y) _ (fun _ h=>h.2.2) HUG.out rfl (info_gr)) hHeld ?_
      try simp only [z0, z1, z2, z3]
      refine tk 17 qRfLk3_17 (some 40) (v:=?q217v) (Or.inl ⟨by rfl, ?q217h⟩) hHeld ?q217r
      case q217h=>(intro _ h;clear h;go_simp;try with_reducible rfl)
      try simp only [z0, z1, z2, z3]
      refine tk 18 qRfLk3_18 (some 41) (v:=.slice (some ⟨g, off, none⟩) l.length cap) (Or.inl ⟨by rfl, ?q218h⟩) hHeld ?q218r
      case q218h=>(intro wq hSw;have lq:=(hSw.1) 0 (.slice (some ⟨g, off, none⟩) l.length cap) rfl;simp only [Nat.zero_add] at lq;clear hSw;go_simp;try with_reducible rfl)
      try simp only [z0, z1, z2, z3]
      refine tk 19 qRfLk3_19 (some 42) (v:=?q219v) (Or.inl ⟨by rfl, ?q219h⟩) hHeld ?q219r
      case q219h=>(intro _ h;clear h;go_simp;try with_reducible rfl)
      try simp only [z0, z1, z2, z3]
      refine tk 20 qRfLk3_20 (some 43) (v:=?q220v) (Or.inl ⟨by rfl, ?q220h⟩) hHeld ?q220r
      case q220h=>(intro _ h;clear h;go_simp;try with_reducible rfl)
      try simp only [z0, z1, z2, z3]
      refine tk 21 qRfLk3_21 (some 44) (yieldsIf_load_mid (by rfl) 29 (.tmp 43) rfl g (off + i * 4) rfl (grCells x) _ (fun _ h=>h.2.1) HUG.out rfl (info_gr)) hHeld ?_
      try simp only [z0, z1, z2, z3]
      refine tn 22 qRfLk3_22 (fun K hK=>?_)
      go_simp
      go_wp2_with (go_at_call 50;refine (HLs.out _).mono ?_;rintro e w22 ⟨rfl, hb⟩)
      have HS22:=Lib.hid ((HS21.out).calls hb)
      refine hK.out _ _ (⟨(fun j v hv=>by rw [Nat.zero_add];exact (HS22.out).at 0 rfl j hv), (elem_rng (HRg.out _ (HS22.out).old) HXi.out), (elem_rng (HRg.out _ (HS22.out).old) HYp.out)⟩) (fun hHeld=>?_)
      clear hK K hb
      try simp only [z0, z1, z2, z3]
      refine tk 23 qRfLk3_23 (some 46) (v:=?q222v) (Or.inl ⟨by rfl, ?q222h⟩) hHeld ?q222r
      case q222h=>(intro _ h;clear h;go_simp;try with_reducible rfl)
      try simp only [z0, z1, z2, z3]
      refine tk 24 qRfLk3_24 (some 47) (v:=?q223v) (Or.inl ⟨by rfl, ?q223h⟩) hHeld ?q223r
      case q223h=>(intro _ h;clear h;go_simp;try with_reducible rfl)
      try simp only [z0, z1, z2, z3]
      refine tk 25 qRfLk3_25 (some 48) (v:=?q224v) (Or.inl ⟨by rfl, ?q224h⟩) hHeld ?q224r
      case q224h=>(intro _ h;clear h;go_simp;try with_reducible rfl)
      try simp only [z0, z1, z2, z3]
      refine wpAnyH_done (by kernel_rfl) ?_ _
      go_wp2_with fail
      go_loopw [4] (fun kv wq=>∃ (c : Int) (q : Nat), kv = .int .i64 c ∧ c = (q : Int) - 1 ∧ q ≤ i ∧ (∀ k, q ≤ k → k < i → ∀ z, l[k]? = some z → ¬ Conf z x) ∧ Hp w [.ob w.heap.size 25 (tbCells (.slice (some ⟨g, off, none⟩) l.length cap) (.slice a2 m.length cap2))] wq) (fun kv _=>(intOf kv + 1).toNat)
      case atStart=>exact ⟨_, i, rfl, (by first | rfl | (have:=HIp.out;omega)), Nat.le_refl _, fun k h1 h2=>absurd h2 (by omega), HS22.out⟩
      case round =>
       obtain ⟨c, q, rfl, hc, hq, hfr, hs⟩:=hrel
       clear b0 HY
       have HY:=Lib.hid hs
       have HFr:=Lib.hid hfr
       have HQ:=Lib.hid hq
       have HC:=Lib.hid hc
       have b0 : wr.cell? ⟨w.heap.size, 0, none⟩ = some (.slice (some ⟨g, off, none⟩) l.length cap):=hs.at 0 rfl 0 rfl
       clear hs hfr HS22
       by_cases hq0 : q = 0
       ·obtain rfl : c = -1:=by omega
        have HAll : Hid (∀ z ∈ l.take i, ¬ Conf z x):=Lib.hid (apart_all (by have:=HFr.out;rwa [hq0] at this))
        clear hq0 hc hq HFr HQ HC
        go_wp2_with fail
        go_quiet (fail)
        have HY2:=Lib.hid (HY.out.drewN nq)
        clear b0 HY
        generalize wr.drewN nq = w2 at *
        go_wp2_with fail
        go_roundw
        case rel=>exact ⟨i + 1, HLt.out, by go_num, by rw [lk_take_snoc HXi.out];exact held_snoc HH.out HOk1.out HU.out HAll.out, HY2.out⟩
        case measure=>simp [intOf];try (have:=HLt.out;omega)
       ·obtain ⟨p, hqp⟩ : ∃ p, q = p + 1:=⟨q - 1, by omega⟩
        obtain rfl : c = (p : Int):=by omega
        have HQp:=Lib.hid hqp
        obtain ⟨y, hy⟩ : ∃ y, l[p]? = some y:=⟨_, List.getElem?_eq_getElem (by have:=HLt.out;omega)⟩
        have HYp:=Lib.hid hy
        have hpi : (p : Int) < (l.length : Int):=by have:=HLt.out;omega
        have hp0 : (0 : Int) ≤ (p : Int):=by omega
        have HGy:=Lib.hid (HGe.out y (List.mem_of_getElem? hy))
        have cy0 : wr.cell? ⟨g, off + p * 4 + 1, none⟩ = some (.int .i64 y.page):=HRg.out wr HY.out.old (p * 4 + 1) _ (grRow_at l p y hy 1 _ rfl)
        have cy1 : wr.cell? ⟨g, off + p * 4 + 2, none⟩ = some (.int .i64 y.slot):=HRg.out wr HY.out.old (p * 4 + 2) _ (grRow_at l p y hy 2 _ rfl)
        have cx0 : wr.cell? ⟨g, off + i * 4 + 1, none⟩ = some (.int .i64 x.page):=HRg.out wr HY.out.old (i * 4 + 1) _ (grRow_at l i x HXi.out 1 _ rfl)
        have cx1 : wr.cell? ⟨g, off + i * 4 + 2, none⟩ = some (.int .i64 x.slot):=HRg.out wr HY.out.old (i * 4 + 2) _ (grRow_at l i x HXi.out 2 _ rfl)
        have hqe : ∀ W, Sem.run Try.prog (binOp .eql 27 (.agg #[.int .i64 y.page, .int .i64 y.slot]) (.agg #[.int .i64 x.page, .int .i64 x.slot])) W = .ok (.bool (sameV y.lock x.lock)) W:=fun W=>run_eql (equal_lk y.lock x.lock HGy.out.lock HGx.out.lock) W
        have hss : sameV y.lock x.lock = (decide (y.page = x.page) && decide (y.slot = x.slot)):=lock_same y x.lock
        have HCf : Hid (∀ W, Calls Try.prog 34 #[.agg (grCells y).toArray, .agg (grCells x).toArray] W fun e w'=>e = .returned (.bool (confB y x)) ∧ Below W.heap.size W w'):=fun W=>rconflict_any y x W HGy.out HGx.out
        clear hqp hy hq hq0 hc
        cases hsv : sameV y.lock x.lock
        ·have HAll : Hid (∀ z ∈ l.take i, ¬ Conf z x):=Lib.hid (apart_below HH.out HXi.out HQp.out HQ.out HYp.out HU.out (by rw [hsv] at hss;intro h;simp [h.1, h.2] at hss) HFr.out)
         rw [hsv] at hqe
         clear hss hsv
         go_wp2_with fail
         go_quiet (fail)
         have HY2:=Lib.hid (HY.out.drewN nq)
         clear b0 cy0 cy1 cx0 cx1 HY HCf hqe
         generalize wr.drewN nq = w2 at *
         go_wp2_with fail
         go_roundw
         case rel=>exact ⟨i + 1, HLt.out, by go_num, by rw [lk_take_snoc HXi.out];exact held_snoc HH.out HOk1.out HU.out HAll.out, HY2.out⟩
         case measure=>simp [intOf];try (have:=HLt.out;omega)
        ·rw [hsv] at hqe
         clear hss hsv
         go_wp2_with fail
         go_quiet (fail)
         have HY2:=Lib.hid (HY.out.drewN nq)
         clear b0 cy0 cy1 cx0 cx1 HY hqe
         generalize wr.drewN nq = w2 at *
         have hNx:=HNc.out i p x y HXi.out (by have:=HQp.out;have:=HQ.out;omega) HYp.out
         have HCi:=Lib.hid (@confB_iff y x)
         generalize confB y x = cb at *
         go_wp2_with fail
         cases cb
         case true =>
          have HX:=Lib.hid (hNx rfl)
          clear hNx HCi
          refine wp_region_held_drew (S:=fun w'=>w'.rangeAt w.heap.size 0 (tbCells (.slice (some ⟨g, off, none⟩) l.length cap) (.slice a2 m.length cap2)) ∧ w'.rangeAt g (off + i * 4) (grCells x) ∧ w'.rangeAt g (off + p * 4) (grCells y)) (by kernel_rfl) (⟨(fun j v hv=>by rw [Nat.zero_add];exact ((HY2.out).drew).at 0 rfl j hv), (elem_rng (HRg.out _ ((HY2.out).drew).old) HXi.out), (elem_rng (HRg.out _ ((HY2.out).drew).old) HYp.out)⟩) (fun hHeld=>?_)
          refine tk 0 qRfLk3_26 (some 70) (v:=?q285v) (Or.inl ⟨by rfl, ?q285h⟩) hHeld ?q285r
          case q285h=>(intro _ h;clear h;go_simp;try with_reducible rfl)
          try simp only [z0, z1, z2, z3]
          refine tk 1 qRfLk3_27 (some 71) (v:=.slice (some ⟨g, off, none⟩) l.length cap) (Or.inl ⟨by rfl, ?q286h⟩) hHeld ?q286r
          case q286h=>(intro wq hSw;have lq:=(hSw.1) 0 (.slice (some ⟨g, off, none⟩) l.length cap) rfl;simp only [Nat.zero_add] at lq;clear hSw;go_simp;try with_reducible rfl)
          try simp only [z0, z1, z2, z3]
          refine tk 2 qRfLk3_28 (some 72) (v:=?q287v) (Or.inl ⟨by rfl, ?q287h⟩) hHeld ?q287r
          case q287h=>(intro _ h;clear h;go_simp;try with_reducible rfl)
          try simp only [z0, z1, z2, z3]
          refine tk 3 qRfLk3_29 (some 73) (v:=?q288v) (Or.inl ⟨by rfl, ?q288h⟩) hHeld ?q288r
          case q288h=>(intro _ h;clear h;go_simp;try with_reducible rfl)
          try simp only [z0, z1, z2, z3]
          refine tk 4 qRfLk3_30 (some 74) (yieldsIf_load_mid (by rfl) 29 (.tmp 73) rfl g (off + p * 4) rfl (grCells y) _ (fun _ h=>h.2.2) HUG.out rfl (info_gr)) hHeld ?_
          try simp only [z0, z1, z2, z3]
          refine tk 5 qRfLk3_31 (some 75) (v:=?q290v) (Or.inl ⟨by rfl, ?q290h⟩) hHeld ?q290r
          case q290h=>(intro _ h;clear h;go_simp;try with_reducible rfl)
          try simp only [z0, z1, z2, z3]
          refine tk 6 qRfLk3_32 (some 76) (v:=.slice (some ⟨g, off, none⟩) l.length cap) (Or.inl ⟨by rfl, ?q291h⟩) hHeld ?q291r
          case q291h=>(intro wq hSw;have lq:=(hSw.1) 0 (.slice (some ⟨g, off, none⟩) l.length cap) rfl;simp only [Nat.zero_add] at lq;clear hSw;go_simp;try with_reducible rfl)
          try simp only [z0, z1, z2, z3]
          refine tk 7 qRfLk3_33 (some 77) (v:=?q292v) (Or.inl ⟨by rfl, ?q292h⟩) hHeld ?q292r
          case q292h=>(intro _ h;clear h;go_simp;try with_reducible rfl)
          try simp only [z0, z1, z2, z3]
          refine tk 8 qRfLk3_34 (some 78) (v:=?q293v) (Or.inl ⟨by rfl, ?q293h⟩) hHeld ?q293r
          case q293h=>(intro _ h;clear h;go_simp;try with_reducible rfl)
          try simp only [z0, z1, z2, z3]
          refine tk 9 qRfLk3_35 (some 79) (yieldsIf_load_mid (by rfl) 29 (.tmp 78) rfl g (off + i * 4) rfl (grCells x) _ (fun _ h=>h.2.1) HUG.out rfl (info_gr)) hHeld ?_
          try simp only [z0, z1, z2, z3]
          refine tn 10 qRfLk3_36 (fun K hK=>?_)
          go_simp
          go_wp2_with (go_at_call 34;refine (HCf.out _).mono ?_;rintro e w61 ⟨rfl, hb⟩)
          have HS61 : Hid (Hp w [.ob (w.heap.size) 25 (tbCells (.slice (some ⟨g, off, none⟩) l.length cap) (.slice a2 m.length cap2))] w61):=((HY2.out).drew).calls hb
          refine hK.out _ _ (⟨(fun j v hv=>by rw [Nat.zero_add];exact (HS61.out).at 0 rfl j hv), (elem_rng (HRg.out _ (HS61.out).old) HXi.out), (elem_rng (HRg.out _ (HS61.out).old) HYp.out)⟩) (fun hHeld=>?_)
          clear hK K hb
          try simp only [z0, z1, z2, z3]
          refine wpAnyH_done (by kernel_rfl) ?_ _
          go_wp2_with fail
          go_ret
          exact ⟨by rw [HX.out];rfl, HS61.out.old⟩
         case false =>
          have HNc1 : Hid (¬ Conf y x):=Lib.hid (fun h=>by have:=HCi.out.2 h;cases this)
          clear hNx HCi
          refine wp_region_held_drew (S:=fun w'=>w'.rangeAt w.heap.size 0 (tbCells (.slice (some ⟨g, off, none⟩) l.length cap) (.slice a2 m.length cap2)) ∧ w'.rangeAt g (off + i * 4) (grCells x) ∧ w'.rangeAt g (off + p * 4) (grCells y)) (by kernel_rfl) (⟨(fun j v hv=>by rw [Nat.zero_add];exact ((HY2.out).drew).at 0 rfl j hv), (elem_rng (HRg.out _ ((HY2.out).drew).old) HXi.out), (elem_rng (HRg.out _ ((HY2.out).drew).old) HYp.out)⟩) (fun hHeld=>?_)
          refine tk 0 qRfLk3_26 (some 70) (v:=?q275v) (Or.inl ⟨by rfl, ?q275h⟩) hHeld ?q275r
          case q275h=>(intro _ h;clear h;go_simp;try with_reducible rfl)
          try simp only [z0, z1, z2, z3]
          refine tk 1 qRfLk3_27 (some 71) (v:=.slice (some ⟨g, off, none⟩) l.length cap) (Or.inl ⟨by rfl, ?q276h⟩) hHeld ?q276r
          case q276h=>(intro wq hSw;have lq:=(hSw.1) 0 (.slice (some ⟨g, off, none⟩) l.length cap) rfl;simp only [Nat.zero_add] at lq;clear hSw;go_simp;try with_reducible rfl)
          try simp only [z0, z1, z2, z3]
          refine tk 2 qRfLk3_28 (some 72) (v:=?q277v) (Or.inl ⟨by rfl, ?q277h⟩) hHeld ?q277r
          case q277h=>(intro _ h;clear h;go_simp;try with_reducible rfl)
          try simp only [z0, z1, z2, z3]
          refine tk 3 qRfLk3_29 (some 73) (v:=?q278v) (Or.inl ⟨by rfl, ?q278h⟩) hHeld ?q278r
          case q278h=>(intro _ h;clear h;go_simp;try with_reducible rfl)
          try simp only [z0, z1, z2, z3]
          refine tk 4 qRfLk3_30 (some 74) (yieldsIf_load_mid (by rfl) 29 (.tmp 73) rfl g (off + p * 4) rfl (grCells y) _ (fun _ h=>h.2.2) HUG.out rfl (info_gr)) hHeld ?_
          try simp only [z0, z1, z2, z3]
          refine tk 5 qRfLk3_31 (some 75) (v:=?q280v) (Or.inl ⟨by rfl, ?q280h⟩) hHeld ?q280r
          case q280h=>(intro _ h;clear h;go_simp;try with_reducible rfl)
          try simp only [z0, z1, z2, z3]
          refine tk 6 qRfLk3_32 (some 76) (v:=.slice (some ⟨g, off, none⟩) l.length cap) (Or.inl ⟨by rfl, ?q281h⟩) hHeld ?q281r
          case q281h=>(intro wq hSw;have lq:=(hSw.1) 0 (.slice (some ⟨g, off, none⟩) l.length cap) rfl;simp only [Nat.zero_add] at lq;clear hSw;go_simp;try with_reducible rfl)
          try simp only [z0, z1, z2, z3]
          refine tk 7 qRfLk3_33 (some 77) (v:=?q282v) (Or.inl ⟨by rfl, ?q282h⟩) hHeld ?q282r
          case q282h=>(intro _ h;clear h;go_simp;try with_reducible rfl)
          try simp only [z0, z1, z2, z3]
          refine tk 8 qRfLk3_34 (some 78) (v:=?q283v) (Or.inl ⟨by rfl, ?q283h⟩) hHeld ?q283r
          case q283h=>(intro _ h;clear h;go_simp;try with_reducible rfl)
          try simp only [z0, z1, z2, z3]
          refine tk 9 qRfLk3_35 (some 79) (yieldsIf_load_mid (by rfl) 29 (.tmp 78) rfl g (off + i * 4) rfl (grCells x) _ (fun _ h=>h.2.1) HUG.out rfl (info_gr)) hHeld ?_
          try simp only [z0, z1, z2, z3]
          refine tn 10 qRfLk3_36 (fun K hK=>?_)
          go_simp
          go_wp2_with (go_at_call 34;refine (HCf.out _).mono ?_;rintro e w61 ⟨rfl, hb⟩)
          have HS61 : Hid (Hp w [.ob (w.heap.size) 25 (tbCells (.slice (some ⟨g, off, none⟩) l.length cap) (.slice a2 m.length cap2))] w61):=((HY2.out).drew).calls hb
          refine hK.out _ _ (⟨(fun j v hv=>by rw [Nat.zero_add];exact (HS61.out).at 0 rfl j hv), (elem_rng (HRg.out _ (HS61.out).old) HXi.out), (elem_rng (HRg.out _ (HS61.out).old) HYp.out)⟩) (fun hHeld=>?_)
          clear hK K hb
          try simp only [z0, z1, z2, z3]
          refine wpAnyH_done (by kernel_rfl) ?_ _
          have hpw2 : wrap64 ((p : Int) - 1) = (p : Int) - 1:=IntWalk.wrap64_in _ (by have:=hn1;omega)
          go_wp2_with fail
          go_roundw
          case rel =>
           refine ⟨_, p, rfl, rfl, by have:=HQp.out;have:=HQ.out;omega, fun k h1 h2 z hz=>?_, HS61.out⟩
           rcases Nat.lt_or_ge k q with h3 | h3
           ·obtain rfl : k = p:=by have:=HQp.out;omega
            rw [HYp.out] at hz
            rw [← Option.some.inj hz];exact HNc1.out
           ·exact HFr.out k h3 h2 z hz
          case measure=>simp [intOf];try omega
    ·obtain rfl : i = 0:=by omega
     have HU : Hid (∀ z, (l.take 0).getLast? = some z → GLt z x):=fun z hz=>by simp at hz
     have dp : decide ((0 : Int) < ((0 : Nat) : Int)) = false:=rfl
     have hpw : IntKind.i64.wrap (((0 : Nat) : Int) - 1) = ((0 : Nat) : Int) - 1:=rfl
     clear hi1
     go_upto_region 6 with (fail)
     refine wp_region_held_drew (S:=fun w'=>w'.rangeAt w.heap.size 0 (tbCells (.slice (some ⟨g, off, none⟩) l.length cap) (.slice a2 m.length cap2)) ∧ w'.rangeAt g (off + 0 * 4) (grCells x)) (by kernel_rfl) (⟨(fun j v hv=>by rw [Nat.zero_add];exact ((HY.out).drew).at 0 rfl j hv), (elem_rng (HRg.out _ ((HY.out).drew).old) HXi.out)⟩) (fun hHeld=>?_)
     refine tk 0 qRfLk3_0 (some 23) (v:=?q401v) (Or.inl ⟨by rfl, ?q401h⟩) hHeld ?q401r
     case q401h=>(intro _ h;clear h;go_simp;try with_reducible rfl)
     try simp only [z0, z1, z2, z3]
     refine tk 1 qRfLk3_1 (some 24) (v:=.slice (some ⟨g, off, none⟩) l.length cap) (Or.inl ⟨by rfl, ?q402h⟩) hHeld ?q402r
     case q402h=>(intro wq hSw;have lq:=(hSw.1) 0 (.slice (some ⟨g, off, none⟩) l.length cap) rfl;simp only [Nat.zero_add] at lq;clear hSw;go_simp;try with_reducible rfl)
     try simp only [z0, z1, z2, z3]
     refine tk 2 qRfLk3_2 (some 25) (v:=?q403v) (Or.inl ⟨by rfl, ?q403h⟩) hHeld ?q403r
     case q403h=>(intro _ h;clear h;go_simp;try with_reducible rfl)
     try simp only [z0, z1, z2, z3]
     refine tk 3 qRfLk3_3 (some 26) (v:=?q404v) (Or.inl ⟨by rfl, ?q404h⟩) hHeld ?q404r
     case q404h=>(intro _ h;clear h;go_simp;try with_reducible rfl)
     try simp only [z0, z1, z2, z3]
     refine tk 4 qRfLk3_4 (some 27) (yieldsIf_load_mid (by rfl) 29 (.tmp 26) rfl g (off + 0 * 4) rfl (grCells x) _ (fun _ h=>h.2) HUG.out rfl (info_gr)) hHeld ?_
     try simp only [z0, z1, z2, z3]
     refine tn 5 qRfLk3_5 (fun K hK=>?_)
     go_simp
     go_wp2_with (go_at_call 49;refine (HGr.out _).mono ?_;rintro e w21 ⟨rfl, hb⟩)
     have HS21 : Hid (Hp w [.ob (w.heap.size) 25 (tbCells (.slice (some ⟨g, off, none⟩) l.length cap) (.slice a2 m.length cap2))] w21):=((HY.out).drew).calls hb
     refine hK.out _ _ (⟨(fun j v hv=>by rw [Nat.zero_add];exact (HS21.out).at 0 rfl j hv), (elem_rng (HRg.out _ (HS21.out).old) HXi.out)⟩) (fun hHeld=>?_)
     clear hK K hb
     try simp only [z0, z1, z2, z3]
     refine tk 6 qRfLk3_6 (some 29) (v:=?q406v) (Or.inl ⟨by rfl, ?q406h⟩) hHeld ?q406r
     case q406h=>(intro _ h;clear h;go_simp;try with_reducible rfl)
     try simp only [z0, z1, z2, z3]
     refine tk 7 qRfLk3_7 (some 30) (v:=?q407v) (Or.inl ⟨by rfl, ?q407h⟩) hHeld ?q407r
     case q407h=>(intro _ h;clear h;go_simp;try with_reducible rfl)
     try simp only [z0, z1, z2, z3]
     refine tk 8 qRfLk3_8 (some 31) (v:=?q408v) (Or.inl ⟨by rfl, ?q408h⟩) hHeld ?q408r
     case q408h=>(intro _ h;clear h;go_simp;try with_reducible rfl)
     try simp only [z0, z1, z2, z3]
     refine tk 9 qRfLk3_9 (some 32) (v:=.bool false) (Or.inl ⟨by rfl, ?q409h⟩) hHeld ?q409r
     case q409h=>(intro _ h;clear h;go_simp;try with_reducible rfl)
     try simp only [z0, z1, z2, z3]
     refine tk 10 qRfLk3_10 (some 33) (v:=?q410v) (Or.inl ⟨by rfl, ?q410h⟩) hHeld ?q410r
     case q410h=>(intro _ h;clear h;go_simp;try with_reducible rfl)
     try simp only [z0, z1, z2, z3]
     refine tk 11 qRfLk3_11 (some 34) (v:=undef) (Or.inr ⟨by rfl, rfl⟩) hHeld ?_
     try simp only [z0, z1, z2, z3]
     refine tk 12 qRfLk3_12 (some 35) (v:=undef) (Or.inr ⟨by rfl, rfl⟩) hHeld ?_
     try simp only [z0, z1, z2, z3]
     refine tk 13 qRfLk3_13 (some 36) (v:=undef) (Or.inr ⟨by rfl, rfl⟩) hHeld ?_
     try simp only [z0, z1, z2, z3]
     refine tk 14 qRfLk3_14 (some 37) (v:=undef) (Or.inr ⟨by rfl, rfl⟩) hHeld ?_
     try simp only [z0, z1, z2, z3]
     refine tk 15 qRfLk3_15 (some 38) (v:=undef) (Or.inr ⟨by rfl, rfl⟩) hHeld ?_
     try simp only [z0, z1, z2, z3]
     refine tk 16 qRfLk3_16 (some 39) (v:=undef) (Or.inr ⟨by rfl, rfl⟩) hHeld ?_
     try simp only [z0, z1, z2, z3]
     refine tk 17 qRfLk3_17 (some 40) (v:=undef) (Or.inr ⟨by rfl, rfl⟩) hHeld ?_
     try simp only [z0, z1, z2, z3]
     refine tk 18 qRfLk3_18 (some 41) (v:=undef) (Or.inr ⟨by rfl, rfl⟩) hHeld ?_
     try simp only [z0, z1, z2, z3]
     refine tk 19 qRfLk3_19 (some 42) (v:=undef) (Or.inr ⟨by rfl, rfl⟩) hHeld ?_
     try simp only [z0, z1, z2, z3]
     refine tk 20 qRfLk3_20 (some 43) (v:=undef) (Or.inr ⟨by rfl, rfl⟩) hHeld ?_
     try simp only [z0, z1, z2, z3]
     refine tk 21 qRfLk3_21 (some 44) (v:=undef) (Or.inr ⟨by rfl, rfl⟩) hHeld ?_
     try simp only [z0, z1, z2, z3]
     refine tn 22 qRfLk3_22 (fun K hK=>?_)
     rw [if_neg (by exact Bool.false_ne_true)]
     have HS22:=HS21
     refine hK.out _ _ (⟨(fun j v hv=>by rw [Nat.zero_add];exact (HS22.out).at 0 rfl j hv), (elem_rng (HRg.out _ (HS22.out).old) HXi.out)⟩) (fun hHeld=>?_)
     clear hK K
     try simp only [z0, z1, z2, z3]
     refine tk 23 qRfLk3_23 (some 46) (v:=undef) (Or.inr ⟨by rfl, rfl⟩) hHeld ?_
     try simp only [z0, z1, z2, z3]
     refine tk 24 qRfLk3_24 (some 47) (v:=?q423v) (Or.inl ⟨by rfl, ?q423h⟩) hHeld ?q423r
     case q423h=>(intro _ h;clear h;go_simp;try with_reducible rfl)
     try simp only [z0, z1, z2, z3]
     refine tk 25 qRfLk3_25 (some 48) (v:=?q424v) (Or.inl ⟨by rfl, ?q424h⟩) hHeld ?q424r
     case q424h=>(intro _ h;clear h;go_simp;try with_reducible rfl)
     try simp only [z0, z1, z2, z3]
     refine wpAnyH_done (by kernel_rfl) ?_ _
     go_wp2_with fail
     go_loopw [4] (fun kv wq=>∃ (c : Int) (q : Nat), kv = .int .i64 c ∧ c = (q : Int) - 1 ∧ q ≤ 0 ∧ (∀ k, q ≤ k → k < 0 → ∀ z, l[k]? = some z → ¬ Conf z x) ∧ Hp w [.ob w.heap.size 25 (tbCells (.slice (some ⟨g, off, none⟩) l.length cap) (.slice a2 m.length cap2))] wq) (fun kv _=>(intOf kv + 1).toNat)
     case atStart=>exact ⟨_, 0, rfl, (by first | rfl | (have:=HIp.out;omega)), Nat.le_refl _, fun k h1 h2=>absurd h2 (by omega), HS22.out⟩
     case round =>
      obtain ⟨c, q, rfl, hc, hq, hfr, hs⟩:=hrel
      clear b0 HY
      have HY:=Lib.hid hs
      have HFr:=Lib.hid hfr
      have HQ:=Lib.hid hq
      have HC:=Lib.hid hc
      have b0 : wr.cell? ⟨w.heap.size, 0, none⟩ = some (.slice (some ⟨g, off, none⟩) l.length cap):=hs.at 0 rfl 0 rfl
      clear hs hfr HS22
      by_cases hq0 : q = 0
      ·obtain rfl : c = -1:=by omega
       have HAll : Hid (∀ z ∈ l.take 0, ¬ Conf z x):=Lib.hid (apart_all (by have:=HFr.out;rwa [hq0] at this))
       clear hq0 hc hq HFr HQ HC
       go_wp2_with fail
       go_quiet (fail)
       have HY2:=Lib.hid (HY.out.drewN nq)
       clear b0 HY
       generalize wr.drewN nq = w2 at *
       go_wp2_with fail
       go_roundw
       case rel=>exact ⟨0 + 1, HLt.out, by go_num, by rw [lk_take_snoc HXi.out];exact held_snoc HH.out HOk1.out HU.out HAll.out, HY2.out⟩
       case measure=>simp [intOf];try (have:=HLt.out;omega)
      ·obtain ⟨p, hqp⟩ : ∃ p, q = p + 1:=⟨q - 1, by omega⟩
       obtain rfl : c = (p : Int):=by omega
       have HQp:=Lib.hid hqp
       obtain ⟨y, hy⟩ : ∃ y, l[p]? = some y:=⟨_, List.getElem?_eq_getElem (by have:=HLt.out;omega)⟩
       have HYp:=Lib.hid hy
       have hpi : (p : Int) < (l.length : Int):=by have:=HLt.out;omega
       have hp0 : (0 : Int) ≤ (p : Int):=by omega
       have HGy:=Lib.hid (HGe.out y (List.mem_of_getElem? hy))
       have cy0 : wr.cell? ⟨g, off + p * 4 + 1, none⟩ = some (.int .i64 y.page):=HRg.out wr HY.out.old (p * 4 + 1) _ (grRow_at l p y hy 1 _ rfl)
       have cy1 : wr.cell? ⟨g, off + p * 4 + 2, none⟩ = some (.int .i64 y.slot):=HRg.out wr HY.out.old (p * 4 + 2) _ (grRow_at l p y hy 2 _ rfl)
       have cx0 : wr.cell? ⟨g, off + 0 * 4 + 1, none⟩ = some (.int .i64 x.page):=HRg.out wr HY.out.old (0 * 4 + 1) _ (grRow_at l 0 x HXi.out 1 _ rfl)
       have cx1 : wr.cell? ⟨g, off + 0 * 4 + 2, none⟩ = some (.int .i64 x.slot):=HRg.out wr HY.out.old (0 * 4 + 2) _ (grRow_at l 0 x HXi.out 2 _ rfl)
       have hqe : ∀ W, Sem.run Try.prog (binOp .eql 27 (.agg #[.int .i64 y.page, .int .i64 y.slot]) (.agg #[.int .i64 x.page, .int .i64 x.slot])) W = .ok (.bool (sameV y.lock x.lock)) W:=fun W=>run_eql (equal_lk y.lock x.lock HGy.out.lock HGx.out.lock) W
       have hss : sameV y.lock x.lock = (decide (y.page = x.page) && decide (y.slot = x.slot)):=lock_same y x.lock
       have HCf : Hid (∀ W, Calls Try.prog 34 #[.agg (grCells y).toArray, .agg (grCells x).toArray] W fun e w'=>e = .returned (.bool (confB y x)) ∧ Below W.heap.size W w'):=fun W=>rconflict_any y x W HGy.out HGx.out
       clear hqp hy hq hq0 hc
       cases hsv : sameV y.lock x.lock
       ·have HAll : Hid (∀ z ∈ l.take 0, ¬ Conf z x):=Lib.hid (apart_below HH.out HXi.out HQp.out HQ.out HYp.out HU.out (by rw [hsv] at hss;intro h;simp [h.1, h.2] at hss) HFr.out)
        rw [hsv] at hqe
        clear hss hsv
        go_wp2_with fail
        go_quiet (fail)
        have HY2:=Lib.hid (HY.out.drewN nq)
        clear b0 cy0 cy1 cx0 cx1 HY HCf hqe
        generalize wr.drewN nq = w2 at *
        go_wp2_with fail
        go_roundw
        case rel=>exact ⟨0 + 1, HLt.out, by go_num, by rw [lk_take_snoc HXi.out];exact held_snoc HH.out HOk1.out HU.out HAll.out, HY2.out⟩
        case measure=>simp [intOf];try (have:=HLt.out;omega)
       ·rw [hsv] at hqe
        clear hss hsv
        go_wp2_with fail
        go_quiet (fail)
        have HY2:=Lib.hid (HY.out.drewN nq)
        clear b0 cy0 cy1 cx0 cx1 HY hqe
        generalize wr.drewN nq = w2 at *
        have hNx:=HNc.out 0 p x y HXi.out (by have:=HQp.out;have:=HQ.out;omega) HYp.out
        have HCi:=Lib.hid (@confB_iff y x)
        generalize confB y x = cb at *
        go_wp2_with fail
        cases cb
        case true =>
         have HX:=Lib.hid (hNx rfl)
         clear hNx HCi
         refine wp_region_held_drew (S:=fun w'=>w'.rangeAt w.heap.size 0 (tbCells (.slice (some ⟨g, off, none⟩) l.length cap) (.slice a2 m.length cap2)) ∧ w'.rangeAt g (off + 0 * 4) (grCells x) ∧ w'.rangeAt g (off + p * 4) (grCells y)) (by kernel_rfl) (⟨(fun j v hv=>by rw [Nat.zero_add];exact ((HY2.out).drew).at 0 rfl j hv), (elem_rng (HRg.out _ ((HY2.out).drew).old) HXi.out), (elem_rng (HRg.out _ ((HY2.out).drew).old) HYp.out)⟩) (fun hHeld=>?_)
         refine tk 0 qRfLk3_26 (some 70) (v:=?q485v) (Or.inl ⟨by rfl, ?q485h⟩) hHeld ?q485r
         case q485h=>(intro _ h;clear h;go_simp;try with_reducible rfl)
         try simp only [z0, z1, z2, z3]
         refine tk 1 qRfLk3_27 (some 71) (v:=.slice (some ⟨g, off, none⟩) l.length cap) (Or.inl ⟨by rfl, ?q486h⟩) hHeld ?q486r
         case q486h=>(intro wq hSw;have lq:=(hSw.1) 0 (.slice (some ⟨g, off, none⟩) l.length cap) rfl;simp only [Nat.zero_add] at lq;clear hSw;go_simp;try with_reducible rfl)
         try simp only [z0, z1, z2, z3]
         refine tk 2 qRfLk3_28 (some 72) (v:=?q487v) (Or.inl ⟨by rfl, ?q487h⟩) hHeld ?q487r
         case q487h=>(intro _ h;clear h;go_simp;try with_reducible rfl)
         try simp only [z0, z1, z2, z3]
         refine tk 3 qRfLk3_29 (some 73) (v:=?q488v) (Or.inl ⟨by rfl, ?q488h⟩) hHeld ?q488r
         case q488h=>(intro _ h;clear h;go_simp;try with_reducible rfl)
         try simp only [z0, z1, z2, z3]
         refine tk 4 qRfLk3_30 (some 74) (yieldsIf_load_mid (by rfl) 29 (.tmp 73) rfl g (off + p * 4) rfl (grCells y) _ (fun _ h=>h.2.2) HUG.out rfl (info_gr)) hHeld ?_
         try simp only [z0, z1, z2, z3]
         refine tk 5 qRfLk3_31 (some 75) (v:=?q490v) (Or.inl ⟨by rfl, ?q490h⟩) hHeld ?q490r
         case q490h=>(intro _ h;clear h;go_simp;try with_reducible rfl)
         try simp only [z0, z1, z2, z3]
         refine tk 6 qRfLk3_32 (some 76) (v:=.slice (some ⟨g, off, none⟩) l.length cap) (Or.inl ⟨by rfl, ?q491h⟩) hHeld ?q491r
         case q491h=>(intro wq hSw;have lq:=(hSw.1) 0 (.slice (some ⟨g, off, none⟩) l.length cap) rfl;simp only [Nat.zero_add] at lq;clear hSw;go_simp;try with_reducible rfl)
         try simp only [z0, z1, z2, z3]
         refine tk 7 qRfLk3_33 (some 77) (v:=?q492v) (Or.inl ⟨by rfl, ?q492h⟩) hHeld ?q492r
         case q492h=>(intro _ h;clear h;go_simp;try with_reducible rfl)
         try simp only [z0, z1, z2, z3]
         refine tk 8 qRfLk3_34 (some 78) (v:=?q493v) (Or.inl ⟨by rfl, ?q493h⟩) hHeld ?q493r
         case q493h=>(intro _ h;clear h;go_simp;try with_reducible rfl)
         try simp only [z0, z1, z2, z3]
         refine tk 9 qRfLk3_35 (some 79) (yieldsIf_load_mid (by rfl) 29 (.tmp 78) rfl g (off + 0 * 4) rfl (grCells x) _ (fun _ h=>h.2.1) HUG.out rfl (info_gr)) hHeld ?_
         try simp only [z0, z1, z2, z3]
         refine tn 10 qRfLk3_36 (fun K hK=>?_)
         go_simp
         go_wp2_with (go_at_call 34;refine (HCf.out _).mono ?_;rintro e w61 ⟨rfl, hb⟩)
         have HS61 : Hid (Hp w [.ob (w.heap.size) 25 (tbCells (.slice (some ⟨g, off, none⟩) l.length cap) (.slice a2 m.length cap2))] w61):=((HY2.out).drew).calls hb
         refine hK.out _ _ (⟨(fun j v hv=>by rw [Nat.zero_add];exact (HS61.out).at 0 rfl j hv), (elem_rng (HRg.out _ (HS61.out).old) HXi.out), (elem_rng (HRg.out _ (HS61.out).old) HYp.out)⟩) (fun hHeld=>?_)
         clear hK K hb
         try simp only [z0, z1, z2, z3]
         refine wpAnyH_done (by kernel_rfl) ?_ _
         go_wp2_with fail
         go_ret
         exact ⟨by rw [HX.out];rfl, HS61.out.old⟩
        case false =>
         have HNc1 : Hid (¬ Conf y x):=Lib.hid (fun h=>by have:=HCi.out.2 h;cases this)
         clear hNx HCi
         refine wp_region_held_drew (S:=fun w'=>w'.rangeAt w.heap.size 0 (tbCells (.slice (some ⟨g, off, none⟩) l.length cap) (.slice a2 m.length cap2)) ∧ w'.rangeAt g (off + 0 * 4) (grCells x) ∧ w'.rangeAt g (off + p * 4) (grCells y)) (by kernel_rfl) (⟨(fun j v hv=>by rw [Nat.zero_add];exact ((HY2.out).drew).at 0 rfl j hv), (elem_rng (HRg.out _ ((HY2.out).drew).old) HXi.out), (elem_rng (HRg.out _ ((HY2.out).drew).old) HYp.out)⟩) (fun hHeld=>?_)
         refine tk 0 qRfLk3_26 (some 70) (v:=?q475v) (Or.inl ⟨by rfl, ?q475h⟩) hHeld ?q475r
         case q475h=>(intro _ h;clear h;go_simp;try with_reducible rfl)
         try simp only [z0, z1, z2, z3]
         refine tk 1 qRfLk3_27 (some 71) (v:=.slice (some ⟨g, off, none⟩) l.length cap) (Or.inl ⟨by rfl, ?q476h⟩) hHeld ?q476r
         case q476h=>(intro wq hSw;have lq:=(hSw.1) 0 (.slice (some ⟨g, off, none⟩) l.length cap) rfl;simp only [Nat.zero_add] at lq;clear hSw;go_simp;try with_reducible rfl)
         try simp only [z0, z1, z2, z3]
         refine tk 2 qRfLk3_28 (some 72) (v:=?q477v) (Or.inl ⟨by rfl, ?q477h⟩) hHeld ?q477r
         case q477h=>(intro _ h;clear h;go_simp;try with_reducible rfl)
         try simp only [z0, z1, z2, z3]
         refine tk 3 qRfLk3_29 (some 73) (v:=?q478v) (Or.inl ⟨by rfl, ?q478h⟩) hHeld ?q478r
         case q478h=>(intro _ h;clear h;go_simp;try with_reducible rfl)
         try simp only [z0, z1, z2, z3]
         refine tk 4 qRfLk3_30 (some 74) (yieldsIf_load_mid (by rfl) 29 (.tmp 73) rfl g (off + p * 4) rfl (grCells y) _ (fun _ h=>h.2.2) HUG.out rfl (info_gr)) hHeld ?_
         try simp only [z0, z1, z2, z3]
         refine tk 5 qRfLk3_31 (some 75) (v:=?q480v) (Or.inl ⟨by rfl, ?q480h⟩) hHeld ?q480r
         case q480h=>(intro _ h;clear h;go_simp;try with_reducible rfl)
         try simp only [z0, z1, z2, z3]
         refine tk 6 qRfLk3_32 (some 76) (v:=.slice (some ⟨g, off, none⟩) l.length cap) (Or.inl ⟨by rfl, ?q481h⟩) hHeld ?q481r
         case q481h=>(intro wq hSw;have lq:=(hSw.1) 0 (.slice (some ⟨g, off, none⟩) l.length cap) rfl;simp only [Nat.zero_add] at lq;clear hSw;go_simp;try with_reducible rfl)
         try simp only [z0, z1, z2, z3]
         refine tk 7 qRfLk3_33 (some 77) (v:=?q482v) (Or.inl ⟨by rfl, ?q482h⟩) hHeld ?q482r
         case q482h=>(intro _ h;clear h;go_simp;try with_reducible rfl)
         try simp only [z0, z1, z2, z3]
         refine tk 8 qRfLk3_34 (some 78) (v:=?q483v) (Or.inl ⟨by rfl, ?q483h⟩) hHeld ?q483r
         case q483h=>(intro _ h;clear h;go_simp;try with_reducible rfl)
         try simp only [z0, z1, z2, z3]
         refine tk 9 qRfLk3_35 (some 79) (yieldsIf_load_mid (by rfl) 29 (.tmp 78) rfl g (off + 0 * 4) rfl (grCells x) _ (fun _ h=>h.2.1) HUG.out rfl (info_gr)) hHeld ?_
         try simp only [z0, z1, z2, z3]
         refine tn 10 qRfLk3_36 (fun K hK=>?_)
         go_simp
         go_wp2_with (go_at_call 34;refine (HCf.out _).mono ?_;rintro e w61 ⟨rfl, hb⟩)
         have HS61 : Hid (Hp w [.ob (w.heap.size) 25 (tbCells (.slice (some ⟨g, off, none⟩) l.length cap) (.slice a2 m.length cap2))] w61):=((HY2.out).drew).calls hb
         refine hK.out _ _ (⟨(fun j v hv=>by rw [Nat.zero_add];exact (HS61.out).at 0 rfl j hv), (elem_rng (HRg.out _ (HS61.out).old) HXi.out), (elem_rng (HRg.out _ (HS61.out).old) HYp.out)⟩) (fun hHeld=>?_)
         clear hK K hb
         try simp only [z0, z1, z2, z3]
         refine wpAnyH_done (by kernel_rfl) ?_ _
         have hpw2 : wrap64 ((p : Int) - 1) = (p : Int) - 1:=IntWalk.wrap64_in _ (by have:=hn1;omega)
         go_wp2_with fail
         go_roundw
         case rel =>
          refine ⟨_, p, rfl, rfl, by have:=HQp.out;have:=HQ.out;omega, fun k h1 h2 z hz=>?_, HS61.out⟩
          rcases Nat.lt_or_ge k q with h3 | h3
          ·obtain rfl : k = p:=by have:=HQp.out;omega
           rw [HYp.out] at hz
           rw [← Option.some.inj hz];exact HNc1.out
          ·exact HFr.out k h3 h2 z hz
         case measure=>simp [intOf];try omega
  ·obtain rfl : i = l.length:=by omega
   have HHl : Hid (HeldOk l):=Lib.hid (by have:=HH.out;rwa [List.take_length] at this)
   clear hlt hi HH
   go_wp2_with fail
   clear b0
   go_loopw [5] (fun iv wr=>∃ i : Nat, i ≤ m.length ∧ iv = .int .i64 i ∧ WaitOk l (m.take i) ∧ Hp w [.ob w.heap.size 25 (tbCells (.slice a l.length cap) (.slice a2 m.length cap2))] wr) (fun iv _=>m.length - (intOf iv).toNat)
   case atStart=>exact ⟨0, by omega, rfl, waitOk_nil l, HY.out⟩
   case round =>
    clear HY
    obtain ⟨i, hi, rfl, hh, hs⟩:=hrel
    have HY:=Lib.hid hs
    have HH:=Lib.hid hh
    have b1 : wr.cell? ⟨w.heap.size, 1, none⟩ = some (.slice a2 m.length cap2):=hs.at 0 rfl 1 rfl
    clear hs hh
    by_cases hlt : i < m.length
    ·obtain ⟨g, off, rfl, hr⟩:=hg2.out (by omega)
     have HRg:=Lib.hid hr
     obtain ⟨x, hx⟩ : ∃ x, m[i]? = some x:=⟨_, List.getElem?_eq_getElem hlt⟩
     have HXi:=Lib.hid hx
     have hgx:=HGw.out x (List.mem_of_getElem? hx)
     have HGx:=Lib.hid hgx
     have HGr : Hid (∀ W, Calls Try.prog 49 #[.agg (grCells x).toArray] W fun e w'=>e = .returned (.bool (grOkB x)) ∧ Below W.heap.size W w'):=fun W=>rgrant_any x W
     have HMx : Hid (∀ W, Below w.heap.size w W → Calls Try.prog 51 #[.agg (tbCells (.slice a l.length cap) (.slice (some ⟨g, off, none⟩) m.length cap2)).toArray, .int .i64 x.tx, .agg (lkCells x.lock).toArray] W fun e w'=>e = .returned (.int .i64 (modeR l x.tx x.page x.slot)) ∧ Below W.heap.size W w'):=fun W hb=>HMd.out W hb x.tx x.lock HGx.out.lock
     have HOx:=Lib.hid (@grOkB_iff x)
     have hNx:=HWg.out i x hx
     have hNm:=HWm.out i x hx
     have hii : (i : Int) < (m.length : Int):=by omega
     have hi0 : (0 : Int) ≤ (i : Int):=by omega
     have HLt:=Lib.hid hlt
     have cx0 : wr.cell? ⟨g, off + i * 4, none⟩ = some (.int .i64 x.tx):=HRg.out wr HY.out.old (i * 4 + 0) _ (grRow_at m i x hx 0 _ rfl)
     have cx1 : wr.cell? ⟨g, off + i * 4 + 1, none⟩ = some (.int .i64 x.page):=HRg.out wr HY.out.old (i * 4 + 1) _ (grRow_at m i x hx 1 _ rfl)
     have cx2 : wr.cell? ⟨g, off + i * 4 + 2, none⟩ = some (.int .i64 x.slot):=HRg.out wr HY.out.old (i * 4 + 2) _ (grRow_at m i x hx 2 _ rfl)
     have cx3 : wr.cell? ⟨g, off + i * 4 + 3, none⟩ = some (.int .i64 x.mode):=HRg.out wr HY.out.old (i * 4 + 3) _ (grRow_at m i x hx 3 _ rfl)
     clear hr hgx hi hx HMd
     generalize grOkB x = gb at *
     generalize hme : modeR l x.tx x.page x.slot = md at *
     have HMe:=Lib.hid hme
     clear hme
     go_upto_region 17 with (first | ((with_reducible refine wpList_load_at 29 (.tmp 91) g ((off + i * 4)) (grCells x) HUG.out ?_ ?_ ?_ ?_ ?_);(exact rfl);(exact (elem_rng (HRg.out _ (HY.out).old) HXi.out));(exact rfl);(exact info_gr);simp only [z0, z1, z2, z3]) | ((with_reducible refine wpList_alloc_ob 29 (grCells grNil) ?_ ?_);(exact alloc_gr);simp only [z0, z1, z2, z3]) | ((with_reducible refine wpList_store_ob 29 (.tmp 6) (wr.heap.size) (grCells x) (grCells grNil) 29 ?_ ?_ ?_ ?_ ?_ ?_ ?_);(exact rfl);(exact rfl);(exact ((HY.out).put 29 (grCells grNil)).get 1 rfl);(exact info_gr);(exact rfl);(exact (oneCell_gr _));skip))
     have HS21 : Hid (Hp w [.ob (w.heap.size) 25 (tbCells (.slice a l.length cap) (.slice (some ⟨g, off, none⟩) m.length cap2)), .ob (wr.heap.size) 29 (grCells x)] ((wr.alloc (.cells (grCells grNil).toArray 29)).setRow (wr.heap.size) (grCells x).toArray)):=((HY.out).put 29 (grCells grNil)).row 1 rfl (grCells x)
     clear HY
     generalize ((wr.alloc (.cells (grCells grNil).toArray 29)).setRow (wr.heap.size) (grCells x).toArray) = w21 at *
     generalize wr.heap.size = B1 at *
     clear cx0 cx1 cx2 cx3 b1
     cases gb
     case false =>
      have HX:=Lib.hid (hNx rfl)
      clear hNx hNm HOx HMx
      refine wp_region_held_drew (S:=fun w'=>w'.rangeAt w.heap.size 0 (tbCells (.slice a l.length cap) (.slice (some ⟨g, off, none⟩) m.length cap2)) ∧ w'.rangeAt B1 0 (grCells x)) (by kernel_rfl) (⟨(fun j v hv=>by rw [Nat.zero_add];exact ((HS21.out).drew).at 0 rfl j hv), (fun j v hv=>by rw [Nat.zero_add];exact ((HS21.out).drew).at 1 rfl j hv)⟩) (fun hHeld=>?_)
      refine tk 0 qRfLk3_37 (some 93) (yieldsIf_load_mid (by rfl) 29 (.tmp 6) rfl B1 (0) rfl (grCells x) _ (fun _ h=>h.2) HUG.out rfl (info_gr)) hHeld ?_
      try simp only [z0, z1, z2, z3]
      refine tn 1 qRfLk3_38 (fun K hK=>?_)
      go_simp
      go_wp2_with (go_at_call 49;refine (HGr.out _).mono ?_;rintro e w22 ⟨rfl, hb⟩)
      have HS22:=Lib.hid (((HS21.out).drew).calls hb)
      refine hK.out _ _ (⟨(fun j v hv=>by rw [Nat.zero_add];exact (HS22.out).at 0 rfl j hv), (fun j v hv=>by rw [Nat.zero_add];exact (HS22.out).at 1 rfl j hv)⟩) (fun hHeld=>?_)
      clear hK K hb
      try simp only [z0, z1, z2, z3]
      refine tk 2 qRfLk3_39 (some 95) (v:=?q1002v) (Or.inl ⟨by rfl, ?q1002h⟩) hHeld ?q1002r
      case q1002h=>(intro _ h;clear h;go_simp;try with_reducible rfl)
      try simp only [z0, z1, z2, z3]
      refine tk 3 qRfLk3_40 (some 96) (v:=?q1003v) (Or.inl ⟨by rfl, ?q1003h⟩) hHeld ?q1003r
      case q1003h=>(intro _ h;clear h;go_simp;try with_reducible rfl)
      try simp only [z0, z1, z2, z3]
      refine tk 4 qRfLk3_41 (some 97) (v:=undef) (Or.inr ⟨by rfl, rfl⟩) hHeld ?_
      try simp only [z0, z1, z2, z3]
      refine tk 5 qRfLk3_42 (some 98) (v:=undef) (Or.inr ⟨by rfl, rfl⟩) hHeld ?_
      try simp only [z0, z1, z2, z3]
      refine tk 6 qRfLk3_43 (some 99) (v:=undef) (Or.inr ⟨by rfl, rfl⟩) hHeld ?_
      try simp only [z0, z1, z2, z3]
      refine tk 7 qRfLk3_44 (some 100) (v:=undef) (Or.inr ⟨by rfl, rfl⟩) hHeld ?_
      try simp only [z0, z1, z2, z3]
      refine tk 8 qRfLk3_45 (some 101) (v:=undef) (Or.inr ⟨by rfl, rfl⟩) hHeld ?_
      try simp only [z0, z1, z2, z3]
      refine tk 10 qRfLk3_46 (some 103) (v:=undef) (Or.inr ⟨by rfl, rfl⟩) hHeld ?_
      try simp only [z0, z1, z2, z3]
      refine tk 11 qRfLk3_47 (some 104) (v:=undef) (Or.inr ⟨by rfl, rfl⟩) hHeld ?_
      try simp only [z0, z1, z2, z3]
      refine tn 9 qRfLk3_48 (fun K hK=>?_)
      rw [if_neg (by exact Bool.false_ne_true)]
      have HS23:=HS22
      refine hK.out _ _ (⟨(fun j v hv=>by rw [Nat.zero_add];exact (HS23.out).at 0 rfl j hv), (fun j v hv=>by rw [Nat.zero_add];exact (HS23.out).at 1 rfl j hv)⟩) (fun hHeld=>?_)
      clear hK K
      try simp only [z0, z1, z2, z3]
      refine tk 12 qRfLk3_49 (some 105) (v:=undef) (Or.inr ⟨by rfl, rfl⟩) hHeld ?_
      try simp only [z0, z1, z2, z3]
      refine tk 13 qRfLk3_50 (some 106) (v:=?q1012v) (Or.inl ⟨by rfl, ?q1012h⟩) hHeld ?q1012r
      case q1012h=>(intro _ h;clear h;go_simp;try with_reducible rfl)
      try simp only [z0, z1, z2, z3]
      refine wpAnyH_done (by kernel_rfl) ?_ _
      go_wp2_with fail
      go_ret
      exact ⟨by rw [HX.out];rfl, HS23.out.old⟩
     case true =>
      have HOk1:=Lib.hid (HOx.out.1 rfl)
      clear hNx HOx
      by_cases hmd : x.mode ≤ md
      ·have HX:=Lib.hid (hNm hmd)
       have dm : decide (x.mode ≤ md) = true:=decide_eq_true hmd
       clear hNm hmd
       refine wp_region_held_drew (S:=fun w'=>w'.rangeAt w.heap.size 0 (tbCells (.slice a l.length cap) (.slice (some ⟨g, off, none⟩) m.length cap2)) ∧ w'.rangeAt B1 0 (grCells x)) (by kernel_rfl) (⟨(fun j v hv=>by rw [Nat.zero_add];exact ((HS21.out).drew).at 0 rfl j hv), (fun j v hv=>by rw [Nat.zero_add];exact ((HS21.out).drew).at 1 rfl j hv)⟩) (fun hHeld=>?_)
       refine tk 0 qRfLk3_37 (some 93) (yieldsIf_load_mid (by rfl) 29 (.tmp 6) rfl B1 (0) rfl (grCells x) _ (fun _ h=>h.2) HUG.out rfl (info_gr)) hHeld ?_
       try simp only [z0, z1, z2, z3]
       refine tn 1 qRfLk3_38 (fun K hK=>?_)
       go_simp
       go_wp2_with (go_at_call 49;refine (HGr.out _).mono ?_;rintro e w22 ⟨rfl, hb⟩)
       have HS22:=Lib.hid (((HS21.out).drew).calls hb)
       refine hK.out _ _ (⟨(fun j v hv=>by rw [Nat.zero_add];exact (HS22.out).at 0 rfl j hv), (fun j v hv=>by rw [Nat.zero_add];exact (HS22.out).at 1 rfl j hv)⟩) (fun hHeld=>?_)
       clear hK K hb
       try simp only [z0, z1, z2, z3]
       refine tk 2 qRfLk3_39 (some 95) (v:=?q1044v) (Or.inl ⟨by rfl, ?q1044h⟩) hHeld ?q1044r
       case q1044h=>(intro _ h;clear h;go_simp;try with_reducible rfl)
       try simp only [z0, z1, z2, z3]
       refine tk 3 qRfLk3_40 (some 96) (v:=?q1045v) (Or.inl ⟨by rfl, ?q1045h⟩) hHeld ?q1045r
       case q1045h=>(intro _ h;clear h;go_simp;try with_reducible rfl)
       try simp only [z0, z1, z2, z3]
       refine tk 4 qRfLk3_41 (some 97) (yieldsIf_load_mid (by rfl) 25 (.tmp 1) rfl w.heap.size (0) rfl (tbCells (.slice a l.length cap) (.slice (some ⟨g, off, none⟩) m.length cap2)) _ (fun _ h=>h.1) HUT.out rfl (info_tb)) hHeld ?_
       try simp only [z0, z1, z2, z3]
       refine tk 5 qRfLk3_42 (some 98) (v:=?q1047v) (Or.inl ⟨by rfl, ?q1047h⟩) hHeld ?q1047r
       case q1047h=>(intro _ h;clear h;go_simp;try with_reducible rfl)
       try simp only [z0, z1, z2, z3]
       refine tk 6 qRfLk3_43 (some 99) (v:=.int .i64 x.tx) (Or.inl ⟨by rfl, ?q1048h⟩) hHeld ?q1048r
       case q1048h=>(intro wq hSw;have lq:=(hSw.2) 0 (.int .i64 x.tx) rfl;simp only [Nat.zero_add] at lq;clear hSw;go_simp;try with_reducible rfl)
       try simp only [z0, z1, z2, z3]
       refine tk 7 qRfLk3_44 (some 100) (v:=?q1049v) (Or.inl ⟨by rfl, ?q1049h⟩) hHeld ?q1049r
       case q1049h=>(intro _ h;clear h;go_simp;try with_reducible rfl)
       try simp only [z0, z1, z2, z3]
       refine tk 8 qRfLk3_45 (some 101) (yieldsIf_load_mid (by rfl) 27 (.tmp 100) rfl B1 (1) rfl (lkCells x.lock) _ (fun _ h=>range_part (h.2) (mid_lk x)) HUK.out rfl (info_lk)) hHeld ?_
       try simp only [z0, z1, z2, z3]
       refine tk 10 qRfLk3_46 (some 103) (v:=?q1051v) (Or.inl ⟨by rfl, ?q1051h⟩) hHeld ?q1051r
       case q1051h=>(intro _ h;clear h;go_simp;try with_reducible rfl)
       try simp only [z0, z1, z2, z3]
       refine tk 11 qRfLk3_47 (some 104) (v:=.int .i64 x.mode) (Or.inl ⟨by rfl, ?q1052h⟩) hHeld ?q1052r
       case q1052h=>(intro wq hSw;have lq:=(hSw.2) 3 (.int .i64 x.mode) rfl;simp only [Nat.zero_add] at lq;clear hSw;go_simp;try with_reducible rfl)
       try simp only [z0, z1, z2, z3]
       refine tn 9 qRfLk3_48 (fun K hK=>?_)
       go_simp
       go_wp2_with (go_at_call 51;refine (HMx.out _ (HS22.out).old).mono ?_;rintro e w23 ⟨rfl, hb⟩)
       have HS23:=Lib.hid ((HS22.out).calls hb)
       refine hK.out _ _ (⟨(fun j v hv=>by rw [Nat.zero_add];exact (HS23.out).at 0 rfl j hv), (fun j v hv=>by rw [Nat.zero_add];exact (HS23.out).at 1 rfl j hv)⟩) (fun hHeld=>?_)
       clear hK K hb
       try simp only [z0, z1, z2, z3]
       refine tk 12 qRfLk3_49 (some 105) (v:=?q1053v) (Or.inl ⟨by rfl, ?q1053h⟩) hHeld ?q1053r
       case q1053h=>(intro _ h;clear h;go_simp;try with_reducible rfl)
       try simp only [z0, z1, z2, z3]
       refine tk 13 qRfLk3_50 (some 106) (v:=?q1054v) (Or.inl ⟨by rfl, ?q1054h⟩) hHeld ?q1054r
       case q1054h=>(intro _ h;clear h;go_simp;try with_reducible rfl)
       try simp only [z0, z1, z2, z3]
       refine wpAnyH_done (by kernel_rfl) ?_ _
       go_wp2_with fail
       go_ret
       exact ⟨by rw [HX.out];rfl, HS23.out.old⟩
      ·have HM1 : Hid (md < x.mode):=Lib.hid (by omega)
       have dm : decide (x.mode ≤ md) = false:=decide_eq_false hmd
       clear hNm hmd
       refine wp_region_held_drew (S:=fun w'=>w'.rangeAt w.heap.size 0 (tbCells (.slice a l.length cap) (.slice (some ⟨g, off, none⟩) m.length cap2)) ∧ w'.rangeAt B1 0 (grCells x)) (by kernel_rfl) (⟨(fun j v hv=>by rw [Nat.zero_add];exact ((HS21.out).drew).at 0 rfl j hv), (fun j v hv=>by rw [Nat.zero_add];exact ((HS21.out).drew).at 1 rfl j hv)⟩) (fun hHeld=>?_)
       refine tk 0 qRfLk3_37 (some 93) (yieldsIf_load_mid (by rfl) 29 (.tmp 6) rfl B1 (0) rfl (grCells x) _ (fun _ h=>h.2) HUG.out rfl (info_gr)) hHeld ?_
       try simp only [z0, z1, z2, z3]
       refine tn 1 qRfLk3_38 (fun K hK=>?_)
       go_simp
       go_wp2_with (go_at_call 49;refine (HGr.out _).mono ?_;rintro e w22 ⟨rfl, hb⟩)
       have HS22:=Lib.hid (((HS21.out).drew).calls hb)
       refine hK.out _ _ (⟨(fun j v hv=>by rw [Nat.zero_add];exact (HS22.out).at 0 rfl j hv), (fun j v hv=>by rw [Nat.zero_add];exact (HS22.out).at 1 rfl j hv)⟩) (fun hHeld=>?_)
       clear hK K hb
       try simp only [z0, z1, z2, z3]
       refine tk 2 qRfLk3_39 (some 95) (v:=?q1086v) (Or.inl ⟨by rfl, ?q1086h⟩) hHeld ?q1086r
       case q1086h=>(intro _ h;clear h;go_simp;try with_reducible rfl)
       try simp only [z0, z1, z2, z3]
       refine tk 3 qRfLk3_40 (some 96) (v:=?q1087v) (Or.inl ⟨by rfl, ?q1087h⟩) hHeld ?q1087r
       case q1087h=>(intro _ h;clear h;go_simp;try with_reducible rfl)
       try simp only [z0, z1, z2, z3]
       refine tk 4 qRfLk3_41 (some 97) (yieldsIf_load_mid (by rfl) 25 (.tmp 1) rfl w.heap.size (0) rfl (tbCells (.slice a l.length cap) (.slice (some ⟨g, off, none⟩) m.length cap2)) _ (fun _ h=>h.1) HUT.out rfl (info_tb)) hHeld ?_
       try simp only [z0, z1, z2, z3]
       refine tk 5 qRfLk3_42 (some 98) (v:=?q1089v) (Or.inl ⟨by rfl, ?q1089h⟩) hHeld ?q1089r
       case q1089h=>(intro _ h;clear h;go_simp;try with_reducible rfl)
       try simp only [z0, z1, z2, z3]
       refine tk 6 qRfLk3_43 (some 99) (v:=.int .i64 x.tx) (Or.inl ⟨by rfl, ?q1090h⟩) hHeld ?q1090r
       case q1090h=>(intro wq hSw;have lq:=(hSw.2) 0 (.int .i64 x.tx) rfl;simp only [Nat.zero_add] at lq;clear hSw;go_simp;try with_reducible rfl)
       try simp only [z0, z1, z2, z3]
       refine tk 7 qRfLk3_44 (some 100) (v:=?q1091v) (Or.inl ⟨by rfl, ?q1091h⟩) hHeld ?q1091r
       case q1091h=>(intro _ h;clear h;go_simp;try with_reducible rfl)
       try simp only [z0, z1, z2, z3]
       refine tk 8 qRfLk3_45 (some 101) (yieldsIf_load_mid (by rfl) 27 (.tmp 100) rfl B1 (1) rfl (lkCells x.lock) _ (fun _ h=>range_part (h.2) (mid_lk x)) HUK.out rfl (info_lk)) hHeld ?_
       try simp only [z0, z1, z2, z3]
       refine tk 10 qRfLk3_46 (some 103) (v:=?q1093v) (Or.inl ⟨by rfl, ?q1093h⟩) hHeld ?q1093r
       case q1093h=>(intro _ h;clear h;go_simp;try with_reducible rfl)
       try simp only [z0, z1, z2, z3]
       refine tk 11 qRfLk3_47 (some 104) (v:=.int .i64 x.mode) (Or.inl ⟨by rfl, ?q1094h⟩) hHeld ?q1094r
       case q1094h=>(intro wq hSw;have lq:=(hSw.2) 3 (.int .i64 x.mode) rfl;simp only [Nat.zero_add] at lq;clear hSw;go_simp;try with_reducible rfl)
       try simp only [z0, z1, z2, z3]
       refine tn 9 qRfLk3_48 (fun K hK=>?_)
       go_simp
       go_wp2_with (go_at_call 51;refine (HMx.out _ (HS22.out).old).mono ?_;rintro e w23 ⟨rfl, hb⟩)
       have HS23:=Lib.hid ((HS22.out).calls hb)
       refine hK.out _ _ (⟨(fun j v hv=>by rw [Nat.zero_add];exact (HS23.out).at 0 rfl j hv), (fun j v hv=>by rw [Nat.zero_add];exact (HS23.out).at 1 rfl j hv)⟩) (fun hHeld=>?_)
       clear hK K hb
       try simp only [z0, z1, z2, z3]
       refine tk 12 qRfLk3_49 (some 105) (v:=?q1095v) (Or.inl ⟨by rfl, ?q1095h⟩) hHeld ?q1095r
       case q1095h=>(intro _ h;clear h;go_simp;try with_reducible rfl)
       try simp only [z0, z1, z2, z3]
       refine tk 13 qRfLk3_50 (some 106) (v:=?q1096v) (Or.inl ⟨by rfl, ?q1096h⟩) hHeld ?q1096r
       case q1096h=>(intro _ h;clear h;go_simp;try with_reducible rfl)
       try simp only [z0, z1, z2, z3]
       refine wpAnyH_done (by kernel_rfl) ?_ _
       go_wp2_with fail
       go_loopw [7] (fun kv wq=>∃ q : Nat, q ≤ i ∧ kv = .int .i64 q ∧ (∀ k, k < q → ∀ z, m[k]? = some z → z.tx ≠ x.tx) ∧ Hp w [.ob (w.heap.size) 25 (tbCells (.slice a l.length cap) (.slice (some ⟨g, off, none⟩) m.length cap2)), .ob B1 29 (grCells x)] wq) (fun kv _=>i - (intOf kv).toNat)
       case atStart=>exact ⟨0, Nat.zero_le _, rfl, fun k h=>absurd h (by omega), HS23.out⟩
       case round =>
        obtain ⟨q, hq, rfl, hfr, hs⟩:=hrel
        have HY:=Lib.hid hs
        have HFr:=Lib.hid hfr
        clear hs hfr HS23
        by_cases hqi : q < i
        ·obtain ⟨y, hy⟩ : ∃ y, m[q]? = some y:=⟨_, List.getElem?_eq_getElem (by have:=HLt.out;omega)⟩
         have HYq:=Lib.hid hy
         have hqii : (q : Int) < (i : Int):=by omega
         have hqm : (q : Int) < (m.length : Int):=by omega
         have hq0 : (0 : Int) ≤ (q : Int):=by omega
         have b1 : wr.cell? ⟨w.heap.size, 1, none⟩ = some (.slice (some ⟨g, off, none⟩) m.length cap2):=HY.out.at 0 rfl 1 rfl
         have gx : wr.cell? ⟨B1, 0, none⟩ = some (.int .i64 x.tx):=HY.out.at 1 rfl 0 rfl
         have cy : wr.cell? ⟨g, off + q * 4, none⟩ = some (.int .i64 y.tx):=HRg.out wr HY.out.old (q * 4 + 0) _ (grRow_at m q y hy 0 _ rfl)
         have HQi:=Lib.hid hqi
         have hNx:=HWt.out i q x y HXi.out hqi hy
         clear hy hq hqi
         by_cases htx : y.tx = x.tx
         ·obtain ⟨e1, n1⟩:=eq_facts htx
          have HX:=Lib.hid (hNx htx)
          clear hNx htx
          go_wp2_with fail
          go_quiet (fail)
          have HY2:=Lib.hid (HY.out.drewN nq)
          clear HY
          go_wp2_with fail
          go_ret
          exact ⟨by rw [HX.out];rfl, HY2.out.old⟩
         ·obtain ⟨e1, n1⟩:=ne_facts htx
          have HTx:=Lib.hid htx
          clear hNx htx
          go_wp2_with fail
          go_quiet (fail)
          have HY2:=Lib.hid (HY.out.drewN nq)
          clear HY b1 gx cy
          generalize wr.drewN nq = w2 at *
          go_wp2_with fail
          go_roundw
          case rel =>
           refine ⟨q + 1, HQi.out, by go_num, fun k hk z hz=>?_, HY2.out⟩
           rcases Nat.lt_or_ge k q with h3 | h3
           ·exact HFr.out k h3 z hz
           ·obtain rfl : k = q:=by omega
            rw [HYq.out] at hz
            rw [← Option.some.inj hz];exact HTx.out
          case measure=>simp [intOf];try (have:=HQi.out;omega)
        ·obtain rfl : q = i:=by omega
         have HY3:=Lib.hid (HY.out.forget (L:=[.ob w.heap.size 25 (tbCells (.slice a l.length cap) (.slice (some ⟨g, off, none⟩) m.length cap2))]) (M:=[.ob B1 29 (grCells x)]))
         clear hqi hq HY
         go_wp2_with fail
         go_roundw
         case rel=>exact ⟨q + 1, HLt.out, by go_num, by rw [lk_take_snoc HXi.out];exact wait_snoc HH.out HOk1.out (by rw [HMe.out];exact HM1.out) (mem_take_of HFr.out), HY3.out⟩
         case measure=>simp [intOf];try (have:=HLt.out;omega)
    ·obtain rfl : i = m.length:=by omega
     have HX : Hid (ok = true):=Lib.hid (HOk.out HL.out HHl.out (by have:=HH.out;rwa [List.take_length] at this))
     clear hlt hi HH
     go_wp2_with fail
     go_ret
     exact ⟨by rw [HX.out];rfl, HY.out.old⟩

end Go.Proofs.Ytooaldglgkjjgaa
