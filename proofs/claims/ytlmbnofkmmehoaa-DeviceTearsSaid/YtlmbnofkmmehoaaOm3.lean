/- texts of a claim, one after the other: faults and devices as values, and what the functions of chapter 4 answer, the walk of the reference's check of a fault, the walk of the reference's 'has', the walk of the reference's check of a device, the walks of the reference's usable and Read -/
import Derived.Test.YtlmbnofkmmehoaaOm2
import Derived.DeepKeys
/- faults and devices as values, and what the functions of chapter 4 answer -/
namespace Go.Proofs.Ytlmbnofkmmehoaa
open Go.RowKit
set_option maxRecDepth 20000

structure Flt where
  kind : Int
  at_ : Int
  page : Int
  target : Int
  byte : Int
  mask : Int
structure Dv where
  pages : List ByteArray
  writes : Int
  unread : List Int
  dead : Bool
  faults : List Flt
def fltCells (f : Flt) : List Value := [.int .i64 f.kind, .int .i64 f.at_, .int .i64 f.page, .int .i64 f.target, .int .i64 f.byte, .int .u8 f.mask]
def intRow (l : List Int) : List Value := l.map (.int .i64)
def strRow (l : List ByteArray) : List Value := l.map .string
def fltRow (l : List Flt) : List Value := l.flatMap fltCells
/-- a slice that reads as these cells -/
def SlRd (v : Value) (z n : Nat) (xs : List Value) (R : List Rng) : Prop :=
  ∃ a cap, v = .slice a n cap ∧ xs.length = n * z ∧ n ≤ cap ∧ cap ≤ maxLen ∧ (0 < n → ∃ g off, a = some ⟨g, off, none⟩ ∧ (g, off, xs) ∈ R) ∧ (a = none → cap = 0)
theorem SlRd.mono {v : Value} {z n : Nat} {xs : List Value} {R S : List Rng} (h : SlRd v z n xs R) (hs : ∀ r ∈ R, r ∈ S) : SlRd v z n xs S := by
  obtain ⟨a, cap, h1, h2, h3, h4, h5, h8⟩ := h
  refine ⟨a, cap, h1, h2, h3, h4, fun h => ?_, h8⟩
  obtain ⟨g, off, h6, h7⟩ := h5 h
  exact ⟨g, off, h6, hs _ h7⟩
theorem SlRd.nil (z : Nat) (R : List Rng) : SlRd (.slice none 0 0) z 0 [] R := ⟨none, 0, rfl, by simp, Nat.le_refl _, Nat.zero_le _, fun h => absurd h (by decide), fun _ => rfl⟩
/-- a slice of the walk's own, handed out, reads -/
theorem own_reads {B : Nat} {W : World} {e : TypeId} {z n : Nat} {v : Value} {xs : List Value} (h : W.ownsRow B e z v n xs) : ∃ R, SlRd v z n xs R ∧ RdIn W R ∧ (∀ r ∈ R, B ≤ r.1 ∧ v.ownBlock = some r.1) := by
  have hl := h.1
  rcases h.2 with ⟨hv, h0⟩ | ⟨g, cap, cur, hv, hB, hg, h1, h2, h3⟩
  · subst h0
    have : xs = [] := List.eq_nil_of_length_eq_zero (by rw [hl]; omega)
    subst this
    exact ⟨[], by rw [hv]; exact SlRd.nil z [], RdIn.nil W, by simp⟩
  · have hr : W.rangeAt g 0 xs := own_range h hv 0 xs (fun j u hu => by rw [Nat.zero_add]; exact hu)
    refine ⟨[(g, 0, xs)], ⟨_, cap, hv, hl, h1, h2, fun _ => ⟨g, 0, rfl, List.mem_singleton.2 rfl⟩, fun h => by cases h⟩, fun r hr' => ?_, fun r hr' => ?_⟩
    · obtain rfl := List.mem_singleton.1 hr'
      exact ⟨(Array.getElem?_eq_some_iff.1 hg).1, hr⟩
    · obtain rfl := List.mem_singleton.1 hr'
      exact ⟨hB, by rw [hv]; rfl⟩
/-- what reads is appended to a slice of the walk's own -/
theorem Hp.appendSl {w W : World} {L : List Th} (h : Hp w L W) (i : Nat) {v : Value} {e : TypeId} {z n : Nat} {xs : List Value} (ei : L[i]? = some (.sl v e z n xs)) {x : Value} {m : Nat} {ys : List Value} {R : List Rng} (hx : SlRd x z m ys R) (hR : RdIn W R)
    (ts : TypeId) (ty : TypeId) {bytes : Nat} (ht : Try.prog.underlying ts = some (.slice e)) (he : ElemIs e z bytes) (h1 : ∀ u ∈ ys, u.oneCell' = true) (hn : n + m ≤ 1048576) :
    ∃ v' W', (Builtin.append_ #[ts, ts] ty #[v, x]).run Try.prog W = .ok v' W' ∧ Hp w (L.set i (.sl v' e z (n + m) (xs ++ ys))) W' := by
  obtain ⟨inf, zv, hi, hz, hsize, hby, hzs⟩ := he.is
  have hroom := he.room
  obtain ⟨a, cap, rfl, hl, hmc, hcm, hg, h0⟩ := hx
  cases a with
  | none =>
    have hc := h0 rfl
    have hm : m = 0 := by omega
    subst hc hm
    have hys : ys = [] := List.eq_nil_of_length_eq_zero (by rw [hl]; omega)
    subst hys
    refine ⟨v, W, run_append_owned_none (P := Try.prog) W w.heap.size ts ty e inf z ht hi v n xs (h.own i ei), ?_⟩
    rw [List.append_nil, Nat.add_zero]
    have : L.set i (.sl v e z n xs) = L := by
      apply List.ext_getElem?
      intro j
      rw [List.getElem?_set]
      split
      · next hij =>
        subst hij
        rw [ei]
        split
        · rfl
        · next hlt => rw [List.getElem?_eq_none (by omega)] at ei; cases ei
      · rfl
    rw [this]
    exact h
  | some a =>
    have hcell : ∀ q u, ys[q]? = some u → W.cell? (a.add q) = some u := fun q u hu => by
      have hq := (List.getElem?_eq_some_iff.1 hu).1
      have hm : 0 < m := by
        rcases Nat.eq_zero_or_pos m with h | h
        · rw [h, Nat.zero_mul] at hl; omega
        · exact h
      obtain ⟨g, off, ha, hmem⟩ := hg hm
      obtain rfl := Option.some.inj ha
      rw [Addr.add_mid]
      exact (hR _ hmem).2 q u hu
    obtain ⟨v', W', hr, h2, h3, h4, h5⟩ := run_append_own_at (P := Try.prog) W w.heap.size ts ty e inf zv z bytes ht hi hz hsize hby hzs he.pos v n xs (h.own i ei) a m cap ys hl hcell h1 (by unfold maxLen; omega) (by
      have := Nat.mul_le_mul hn hroom
      omega) h.old.size
    exact ⟨v', W', hr, h.grown i ei h2 h3 h5⟩
theorem wp_append_sl {o : Oper} {a : Act} {w W : World} {K : Act → World → Prop} {Q : Exit → Act → World → Prop} {L : List Th} (h : Hp w L W) (s x : Operand) (ts : TypeId) (ho : o.op = .call { callee := .builtin .append, args := #[s, x], argTypes := #[ts, ts] })
    (i : Nat) {v : Value} {e : TypeId} {z n : Nat} {xs : List Value} (ei : L[i]? = some (.sl v e z n xs)) {xv : Value} {m : Nat} {ys : List Value} {R : List Rng} (hxv : SlRd xv z m ys R) (hR : RdIn W R) {bytes : Nat} (ht : Try.prog.underlying ts = some (.slice e)) (he : ElemIs e z bytes)
    (hs : a.eval s = v) (hx : a.eval x = xv) (h1 : ∀ u ∈ ys, u.oneCell' = true) (hn : n + m ≤ 1048576)
    (hk : ∀ v' W', Hp w (L.set i (.sl v' e z (n + m) (xs ++ ys))) W' → K (a.put o.dst v') W') : o.wp Try.prog a W K Q := by
  obtain ⟨v', W', hr, h2⟩ := h.appendSl i ei hxv hR ts o.type ht he h1 hn
  unfold Oper.wp execOp
  simp only [ho, resolve, invoke, builtin, Sem.run_bind, Sem.run_pure, Result.andThen_ok, List.map_toArray, List.map_cons, List.map_nil, hs, hx, hr]
  exact hk v' W' h2
theorem wpList_append_sl {ops : Array Oper} {rest : List Oper} {a : Act} {w W : World} {Q : Exit → Act → World → Prop} {d : Option Tmp} {ty : TypeId} {pos : String} {aft : Array Edge} {L : List Th} (h : Hp w L W) (s x : Operand) (ts : TypeId)
    (i : Nat) {v : Value} {e : TypeId} {z n : Nat} {xs : List Value} (ei : L[i]? = some (.sl v e z n xs)) {xv : Value} {m : Nat} {ys : List Value} {R : List Rng} (hxv : SlRd xv z m ys R) (hR : RdIn W R) {bytes : Nat} (ht : Try.prog.underlying ts = some (.slice e)) (he : ElemIs e z bytes)
    (hs : a.eval s = v) (hx : a.eval x = xv) (h1 : ∀ u ∈ ys, u.oneCell' = true) (hn : n + m ≤ 1048576)
    (hk : ∀ v' W', Hp w (L.set i (.sl v' e z (n + m) (xs ++ ys))) W' → wpList Try.prog ops Q rest (a.put d v') W') :
    wpList Try.prog ops Q ({ dst := d, op := .call { callee := .builtin .append, args := #[s, x], argTypes := #[ts, ts] }, type := ty, pos := pos, after := aft, guard := none } :: rest) a W :=
  wpList_plain rfl fun _ hK => wp_append_sl h s x ts rfl i ei hxv hR ht he hs hx h1 hn (fun v' W' p => hK _ _ (hk v' W' p))
def dvCells (p : Value) (d : Dv) (u f : Value) : List Value := [p, .int .i64 d.writes, u, .bool d.dead, f]
/-- a device's three slices read -/
structure DvRd (p u f : Value) (d : Dv) (R : List Rng) : Prop where
  pages : SlRd p 1 d.pages.length (strRow d.pages) R
  unread : SlRd u 1 d.unread.length (intRow d.unread) R
  faults : SlRd f 6 d.faults.length (fltRow d.faults) R
theorem DvRd.mono {p u f : Value} {d : Dv} {R S : List Rng} (h : DvRd p u f d R) (hs : ∀ r ∈ R, r ∈ S) : DvRd p u f d S := ⟨h.pages.mono hs, h.unread.mono hs, h.faults.mono hs⟩
/-- a value that reads as a device -/
def DvIs (v : Value) (d : Dv) (R : List Rng) : Prop := ∃ p u f, v = .agg (dvCells p d u f).toArray ∧ DvRd p u f d R
def dvNil : Dv := ⟨[], 0, [], false, []⟩
theorem dvNil_is : DvIs (.agg (dvCells (.slice none 0 0) dvNil (.slice none 0 0) (.slice none 0 0)).toArray) dvNil [] := ⟨_, _, _, rfl, SlRd.nil _ _, SlRd.nil _ _, SlRd.nil _ _⟩

def shapeB (f : Flt) : Bool :=
  if f.kind = 1 then decide (f.page = 0 ∧ f.target = 0 ∧ f.byte = 0 ∧ f.mask = 0)
  else if f.kind = 6 then decide (f.page = 0 ∧ f.target = 0 ∧ f.byte = 0 ∧ f.mask = 0)
  else if f.kind = 2 then decide (f.page = 0 ∧ f.byte = 0 ∧ f.mask = 0)
  else if f.kind = 3 then decide (f.page = 0 ∧ f.target = 0 ∧ f.mask = 0)
  else if f.kind = 4 then decide (f.target = 0 ∧ ¬ f.mask = 0)
  else if f.kind = 5 then decide (f.target = 0 ∧ f.byte = 0 ∧ f.mask = 0)
  else false
def rangesB (n : Nat) (w : Int) (f : Flt) : Bool :=
  !decide (f.at_ ≤ w) && (!decide (1099511627776 < f.at_) && (!decide (f.page < 0) && (!decide ((n : Int) ≤ f.page) && (!decide (f.target < 0) && (!decide ((n : Int) ≤ f.target) && (!decide (f.byte < 0) && !decide (256 ≤ f.byte)))))))
/-- the fault f is valid for a device of n pages that was written w times -/
def fltOkB (n : Nat) (w : Int) (f : Flt) : Bool := rangesB n w f && shapeB f
def unreadAtB (n : Nat) (l : List Int) (i : Nat) : Bool :=
  !decide (l.getD i 0 < 0) && (!decide ((n : Int) ≤ l.getD i 0) && !(decide (0 < i) && decide (l.getD i 0 ≤ l.getD (i - 1) 0)))
def numsB (d : Dv) : Bool :=
  !decide ((d.pages.length : Int) < 1) && (!decide (64 < (d.pages.length : Int)) && (!decide (d.writes < 0) && (!decide (1099511627776 < d.writes) && !decide (64 < (d.faults.length : Int)))))
def pagesB (d : Dv) : Bool := d.pages.all fun s => decide (s.size = 256)
def unreadB (d : Dv) : Bool := (List.range d.unread.length).all (unreadAtB d.pages.length d.unread)
def faultsB (d : Dv) : Bool := d.faults.all (fltOkB d.pages.length d.writes)
def dvOkB (d : Dv) : Bool := numsB d && (pagesB d && (unreadB d && faultsB d))

def blankPg : ByteArray := ⟨Array.replicate 256 0⟩
def newR (n : Int) : Dv × Int := if n < 1 ∨ 64 < n then (dvNil, 1) else (⟨List.replicate n.toNat blankPg, 0, [], false, []⟩, 0)
def injectR (d : Dv) (f : Flt) : Dv × Int :=
  if dvOkB d = false then (dvNil, 15) else if fltOkB d.pages.length d.writes f = false then (dvNil, 1) else if d.faults.length = 64 then (dvNil, 21) else (⟨d.pages, d.writes, d.unread, d.dead, d.faults ++ [f]⟩, 0)
def usableR (d : Dv) (page : Int) : Int := if dvOkB d = false then 15 else if d.dead = true then 10 else if page < 0 ∨ (d.pages.length : Int) ≤ page then 1 else 0
def hasB (l : List Int) (n : Int) : Bool := l.any fun x => decide (x = n)
def readR (d : Dv) (page : Int) : ByteArray × Int :=
  if usableR d page ≠ 0 then (⟨#[]⟩, usableR d page) else if hasB d.unread page = true then (⟨#[]⟩, 11) else (d.pages.getD page.toNat ⟨#[]⟩, 0)
def withoutR (l : List Int) (n : Int) : List Int := l.filter fun x => !decide (x = n)
/-- an ascending list with a number -/
def withR (n : Int) : List Int → List Int
  | [] => [n]
  | x :: l => if n ≤ x then n :: withoutR (x :: l) n else x :: withR n l
def placeR (d : Dv) (page : Int) (s : ByteArray) (n : Nat) : Dv :=
  ⟨d.pages.set page.toNat (s.extract 0 n ++ (d.pages.getD page.toNat ⟨#[]⟩).extract n 256), d.writes, withoutR d.unread page, d.dead, d.faults⟩
def landR (d : Dv) (page : Int) (s : ByteArray) : List Flt → Dv
  | [] => placeR d page s 256
  | f :: l => if f.kind = 1 then d else if f.kind = 2 then placeR d f.target s 256 else if f.kind = 3 then placeR d page s f.byte.toNat else landR d page s l
def rotR (b : ByteArray) (k : Nat) (m : Int) : ByteArray := ⟨b.data.modify k fun x => x ^^^ UInt8.ofNat m.toNat⟩
def happenR (d : Dv) (f : Flt) : Dv :=
  if f.kind = 4 then ⟨d.pages.modify f.page.toNat fun b => rotR b f.byte.toNat f.mask, d.writes, d.unread, d.dead, d.faults⟩
  else if f.kind = 5 then ⟨d.pages, d.writes, withR f.page d.unread, d.dead, d.faults⟩
  else if f.kind = 6 then ⟨d.pages, d.writes, d.unread, true, d.faults⟩ else d
def nowR (d : Dv) : List Flt := d.faults.filter fun f => decide (f.at_ = d.writes + 1)
def laterR (d : Dv) : List Flt := d.faults.filter fun f => !decide (f.at_ = d.writes + 1)
def writeR (d : Dv) (page : Int) (s : ByteArray) : Dv × Int :=
  if usableR d page ≠ 0 then (dvNil, usableR d page) else if s.size ≠ 256 then (dvNil, 2) else if d.writes = 1099511627776 then (dvNil, 21)
  else ((nowR d).foldl happenR (landR ⟨d.pages, d.writes + 1, d.unread, d.dead, laterR d⟩ page s (nowR d)), 0)
def replaceR (d : Dv) : Dv × Int := if dvOkB d = false then (dvNil, 15) else (⟨List.replicate d.pages.length blankPg, d.writes, [], false, d.faults⟩, 0)
def tearR (d : Dv) (page : Int) (s : ByteArray) (cut : Int) : Dv × Int :=
  if usableR d page ≠ 0 then (dvNil, usableR d page) else if cut < 0 ∨ 256 < cut then (dvNil, 1) else if s.size ≠ 256 then (dvNil, 2) else (placeR d page s cut.toNat, 0)

/-- the numbers of a fault are numbers -/
structure GoodFlt (f : Flt) : Prop where
  kind : (Lit.int .i64 f.kind).wf = true
  at_ : (Lit.int .i64 f.at_).wf = true
  page : (Lit.int .i64 f.page).wf = true
  target : (Lit.int .i64 f.target).wf = true
  byte : (Lit.int .i64 f.byte).wf = true
  mask : (Lit.int .u8 f.mask).wf = true
def fltLits (f : Flt) : List Lit := [.int .i64 f.kind, .int .i64 f.at_, .int .i64 f.page, .int .i64 f.target, .int .i64 f.byte, .int .u8 f.mask]
theorem fltLits_iff (a b : Flt) : fltLits a = fltLits b ↔ a = b := by
  constructor
  · intro h
    simp only [fltLits, List.cons.injEq, Lit.int.injEq, true_and, and_true] at h
    obtain ⟨h1, h2, h3, h4, h5, h6⟩ := h
    cases a; cases b
    simp only at h1 h2 h3 h4 h5 h6
    rw [h1, h2, h3, h4, h5, h6]
  · rintro rfl; rfl
theorem cellsOf_flt : Try.prog.cellsOf 29 = 6 := by kernel_rfl
theorem cellsOf_i : Try.prog.cellsOf 3 = 1 := by kernel_rfl
theorem cellsOf_u8 : Try.prog.cellsOf 5 = 1 := by kernel_rfl
theorem lits_i (d : Nat) (n : Int) (h : (Lit.int .i64 n).wf = true) : Try.prog.keyLits (d + 1) 3 [.int .i64 n] = some [.int .i64 n] := by
  unfold Program.keyLits
  rw [Try.underlying3]
  simp [h]
theorem lits_u8 (d : Nat) (n : Int) (h : (Lit.int .u8 n).wf = true) : Try.prog.keyLits (d + 1) 5 [.int .u8 n] = some [.int .u8 n] := by
  unfold Program.keyLits
  rw [Try.underlying5]
  simp [h]
theorem lits_flt (d : Nat) (f : Flt) (h : GoodFlt f) : Try.prog.keyLits (d + 2) 29 (fltCells f) = some (fltLits f) := by
  rw [show d + 2 = (d + 1) + 1 from rfl]
  unfold Program.keyLits
  rw [Try.underlying29]
  simp only
  rw [if_pos ⟨by rw [cellsOf_flt]; rfl, by kernel_rfl⟩]
  unfold fltCells
  simp only [List.mapM_cons, List.mapM_nil, cellsOf_i, cellsOf_u8, List.drop_zero, List.take_succ_cons, List.take_zero, List.drop_succ_cons, lits_i d f.kind h.kind, lits_i d f.at_ h.at_, lits_i d f.page h.page, lits_i d f.target h.target, lits_i d f.byte h.byte, lits_u8 d f.mask h.mask]
  simp [fltLits, List.flatten, pure, bind]
theorem flt_formed (f : Flt) : (Value.agg (fltCells f).toArray).formed Try.prog 29 = true := by
  unfold Value.formed
  rw [Try.underlying29]
  simp only
  rw [List.size_toArray, show (fltCells f).length = 6 from rfl, cellsOf_flt]
  rfl
theorem equal_flt (a b : Flt) (ha : GoodFlt a) (hb : GoodFlt b) (w : World) : Sem.run Try.prog (Op.equal 29 (.agg (fltCells a).toArray) (.agg (fltCells b).toArray)) w = .ok (sameV a b) w :=
  equal_lits 29 a b _ _ _ _ (by kernel_rfl) (flt_formed a) (flt_formed b) (lits_flt 2 a ha) (lits_flt 2 b hb) (fltLits_iff a b) w
def fltNil : Flt := ⟨0, 0, 0, 0, 0, 0⟩
def nilS : Value := .slice none 0 0
theorem info_flt : (Try.prog.info? 29).map (·.size) = some 6 := by kernel_rfl
theorem info_dv : (Try.prog.info? 27).map (·.size) = some 5 := by kernel_rfl
theorem under_flt : ∃ fs, Try.prog.underlying 29 = some (.struct fs) := ⟨_, Try.underlying29⟩
theorem under_dv : ∃ fs, Try.prog.underlying 27 = some (.struct fs) := ⟨_, Try.underlying27⟩
theorem oneCell_flt (f : Flt) : ((fltCells f).toArray).all (·.oneCell') = true := by kernel_rfl
theorem alloc_flt (w : World) : Sem.run Try.prog (Instr.alloc 29 true (.tuple #[])) w = .ok (.pointer (some ⟨w.heap.size, 0, none⟩)) (w.alloc (.cells (fltCells fltNil).toArray 29)) := by kernel_rfl
theorem alloc_dv (w : World) : Sem.run Try.prog (Instr.alloc 27 true (.tuple #[])) w = .ok (.pointer (some ⟨w.heap.size, 0, none⟩)) (w.alloc (.cells (dvCells nilS dvNil nilS nilS).toArray 27)) := by kernel_rfl
theorem oneCell_dv (a b c : Option Addr) (n m k i j l : Nat) (d : Dv) : ((dvCells (.slice a n i) d (.slice b m j) (.slice c k l)).toArray).all (·.oneCell') = true := by kernel_rfl
theorem elem_of {t : TypeId} {z : Value} {s b : Nat} (h : (Try.prog.info? t).map (fun i => (i.zero, i.size, i.bytes)) = some (some z, s, b)) (hz : z.cells.size = s) (h1 : 0 < s) (h2 : s ≤ 65536) (h3 : b ≤ 65536) : ElemIs t s b := by
  obtain ⟨i, e1, e2, e3, e4⟩ := info_of h
  exact ⟨⟨i, z, e1, e2, e3, e4, hz⟩, h1, h2, h3⟩
theorem elem_flt : ElemIs 29 6 48 := elem_of (z := .agg (fltCells fltNil).toArray) (by kernel_rfl) rfl (by decide) (by decide) (by decide)
theorem elem_i : ElemIs 3 1 8 := elem_of (z := .int .i64 0) (by kernel_rfl) rfl (by decide) (by decide) (by decide)
theorem elem_s : ElemIs 9 1 16 := elem_of (z := .string ⟨#[]⟩) (by kernel_rfl) rfl (by decide) (by decide) (by decide)
end Go.Proofs.Ytlmbnofkmmehoaa
/- the walk of the reference's check of a fault -/
namespace Go.Proofs.Ytlmbnofkmmehoaa
open Go.RowKit
set_option maxRecDepth 20000

theorem flt_same {a b : Flt} (ha : GoodFlt a) (hb : GoodFlt b) (W : World) : Sem.run Try.prog (binOp .eql 29 (.agg #[.int .i64 a.kind, .int .i64 a.at_, .int .i64 a.page, .int .i64 a.target, .int .i64 a.byte, .int .u8 a.mask]) (.agg #[.int .i64 b.kind, .int .i64 b.at_, .int .i64 b.page, .int .i64 b.target, .int .i64 b.byte, .int .u8 b.mask])) W = .ok (.bool (sameV a b)) W := run_eql (equal_flt a b ha hb) W
theorem sameV_eq {α : Type} {a b : α} {c : Bool} (h : a = b ↔ c = true) : sameV a b = c := by rw [Bool.eq_iff_iff, sameV_iff, h]
theorem wf0 : (Lit.int .i64 0).wf = true := by decide
theorem wf0b : (Lit.int .u8 0).wf = true := by decide
set_option maxHeartbeats 4000000 in
theorem rfault_bad (a : Option Addr) (n cap : Nat) (wr : Int) (u : Value) (dead : Bool) (f : Value) (x : Flt) (w : World) (hr : rangesB n wr x = false) :
    Calls Try.prog 53 #[.agg #[.slice a n cap, .int .i64 wr, u, .bool dead, f], .agg #[.int .i64 x.kind, .int .i64 x.at_, .int .i64 x.page, .int .i64 x.target, .int .i64 x.byte, .int .u8 x.mask]] w fun e w' => e = .returned (.bool (fltOkB n wr x)) ∧ Below w.heap.size w w' := by
  have HF : Hid (fltOkB n wr x = false) := by show _ = _; unfold fltOkB; rw [hr]; rfl
  have fin : Hid (∀ W, W = ((w.alloc (.cells #[.slice a n cap, .int .i64 wr, u, .bool dead, f] 27)).alloc (.cells #[.int .i64 x.kind, .int .i64 x.at_, .int .i64 x.page, .int .i64 x.target, .int .i64 x.byte, .int .u8 x.mask] 29)) → Below w.heap.size w W) := by
    rintro W rfl
    exact ((Below.refl _ _).alloc (Nat.le_refl _) _).alloc (by simp) _
  unfold rangesB at hr
  obtain ⟨k, t, p, g, b, m⟩ := x
  simp only at hr HF fin ⊢
  by_cases c1 : t ≤ wr
  · clear hr
    go_enter Try.func53, Try.ntmps53
    go_wp2
    go_ret
    exact ⟨by rw [HF.out]; rfl, fin.out _ rfl⟩
  by_cases c2 : 1099511627776 < t
  · clear hr
    go_enter Try.func53, Try.ntmps53
    go_wp2
    go_ret
    exact ⟨by rw [HF.out]; rfl, fin.out _ rfl⟩
  by_cases c3 : p < 0
  · clear hr
    go_enter Try.func53, Try.ntmps53
    go_wp2
    go_ret
    exact ⟨by rw [HF.out]; rfl, fin.out _ rfl⟩
  by_cases c4 : (n : Int) ≤ p
  · clear hr
    go_enter Try.func53, Try.ntmps53
    go_wp2
    go_ret
    exact ⟨by rw [HF.out]; rfl, fin.out _ rfl⟩
  by_cases c5 : g < 0
  · clear hr
    go_enter Try.func53, Try.ntmps53
    go_wp2
    go_ret
    exact ⟨by rw [HF.out]; rfl, fin.out _ rfl⟩
  by_cases c6 : (n : Int) ≤ g
  · clear hr
    go_enter Try.func53, Try.ntmps53
    go_wp2
    go_ret
    exact ⟨by rw [HF.out]; rfl, fin.out _ rfl⟩
  by_cases c7 : b < 0
  · clear hr
    go_enter Try.func53, Try.ntmps53
    go_wp2
    go_ret
    exact ⟨by rw [HF.out]; rfl, fin.out _ rfl⟩
  by_cases c8 : 256 ≤ b
  · clear hr
    go_enter Try.func53, Try.ntmps53
    go_wp2
    go_ret
    exact ⟨by rw [HF.out]; rfl, fin.out _ rfl⟩
  · exact absurd hr (by simp [c1, c2, c3, c4, c5, c6, c7, c8])
set_option maxHeartbeats 8000000 in
theorem rfault_good (a : Option Addr) (n cap : Nat) (wr : Int) (u : Value) (dead : Bool) (f : Value) (x : Flt) (w : World) (hx : GoodFlt x) (hr : rangesB n wr x = true) :
    Calls Try.prog 53 #[.agg #[.slice a n cap, .int .i64 wr, u, .bool dead, f], .agg #[.int .i64 x.kind, .int .i64 x.at_, .int .i64 x.page, .int .i64 x.target, .int .i64 x.byte, .int .u8 x.mask]] w fun e w' => e = .returned (.bool (fltOkB n wr x)) ∧ Below w.heap.size w w' := by
  have HF : Hid (fltOkB n wr x = shapeB x) := by show _ = _; unfold fltOkB; rw [hr]; rfl
  have fin : Hid (∀ (y : Flt) W, W.heap.size = W.heap.size → Below w.heap.size w W → Below w.heap.size w W) := fun _ _ _ h => h
  clear fin
  have H2 : Hid (Below w.heap.size w ((w.alloc (.cells #[.slice a n cap, .int .i64 wr, u, .bool dead, f] 27)).alloc (.cells #[.int .i64 x.kind, .int .i64 x.at_, .int .i64 x.page, .int .i64 x.target, .int .i64 x.byte, .int .u8 x.mask] 29))) := ((Below.refl _ _).alloc (Nat.le_refl _) _).alloc (by simp) _
  have HX := Lib.hid hx
  unfold rangesB at hr
  clear hx
  simp only [Bool.and_eq_true, Bool.not_eq_true', decide_eq_false_iff_not] at hr
  obtain ⟨c1, c2, c3, c4, c5, c6, c7, c8⟩ := hr
  obtain ⟨k, t, p, g, b, m⟩ := x
  simp only at c1 c2 c3 c4 c5 c6 c7 c8 HF HX H2 ⊢
  by_cases k1 : k = 1
  · subst k1
    have e : ∀ W, _ := fun W => flt_same (a := ⟨1, t, p, g, b, m⟩) (b := ⟨1, t, 0, 0, 0, 0⟩) HX.out ⟨(rfl : (Lit.int .i64 1).wf = true), HX.out.at_, (rfl : (Lit.int .i64 0).wf = true), (rfl : (Lit.int .i64 0).wf = true), (rfl : (Lit.int .i64 0).wf = true), (rfl : (Lit.int .u8 0).wf = true)⟩ W
    simp only at e
    have HQ : Hid (sameV (⟨1, t, p, g, b, m⟩ : Flt) ⟨1, t, 0, 0, 0, 0⟩ = shapeB ⟨1, t, p, g, b, m⟩) := by
      refine sameV_eq ?_
      simp [shapeB]
    go_enter Try.func53, Try.ntmps53
    go_wp2
    go_ret
    refine ⟨?_, ?_⟩
    · rw [HF.out, ← HQ.out]; rfl
    · exact H2.out.alloc (by simp; omega) _
  by_cases k6 : k = 6
  · subst k6
    have e : ∀ W, _ := fun W => flt_same (a := ⟨6, t, p, g, b, m⟩) (b := ⟨6, t, 0, 0, 0, 0⟩) HX.out ⟨(rfl : (Lit.int .i64 6).wf = true), HX.out.at_, (rfl : (Lit.int .i64 0).wf = true), (rfl : (Lit.int .i64 0).wf = true), (rfl : (Lit.int .i64 0).wf = true), (rfl : (Lit.int .u8 0).wf = true)⟩ W
    simp only at e
    have HQ : Hid (sameV (⟨6, t, p, g, b, m⟩ : Flt) ⟨6, t, 0, 0, 0, 0⟩ = shapeB ⟨6, t, p, g, b, m⟩) := by
      refine sameV_eq ?_
      simp [shapeB]
    go_enter Try.func53, Try.ntmps53
    go_wp2
    go_ret
    refine ⟨?_, ?_⟩
    · rw [HF.out, ← HQ.out]; rfl
    · exact H2.out.alloc (by simp; omega) _
  by_cases k2 : k = 2
  · subst k2
    have e : ∀ W, _ := fun W => flt_same (a := ⟨2, t, p, g, b, m⟩) (b := ⟨2, t, 0, g, 0, 0⟩) HX.out ⟨(rfl : (Lit.int .i64 2).wf = true), HX.out.at_, (rfl : (Lit.int .i64 0).wf = true), HX.out.target, (rfl : (Lit.int .i64 0).wf = true), (rfl : (Lit.int .u8 0).wf = true)⟩ W
    simp only at e
    have HQ : Hid (sameV (⟨2, t, p, g, b, m⟩ : Flt) ⟨2, t, 0, g, 0, 0⟩ = shapeB ⟨2, t, p, g, b, m⟩) := by
      refine sameV_eq ?_
      simp [shapeB]
    go_enter Try.func53, Try.ntmps53
    go_wp2
    go_ret
    refine ⟨?_, ?_⟩
    · rw [HF.out, ← HQ.out]; rfl
    · exact H2.out.alloc (by simp; omega) _
  by_cases k3 : k = 3
  · subst k3
    have e : ∀ W, _ := fun W => flt_same (a := ⟨3, t, p, g, b, m⟩) (b := ⟨3, t, 0, 0, b, 0⟩) HX.out ⟨(rfl : (Lit.int .i64 3).wf = true), HX.out.at_, (rfl : (Lit.int .i64 0).wf = true), (rfl : (Lit.int .i64 0).wf = true), HX.out.byte, (rfl : (Lit.int .u8 0).wf = true)⟩ W
    simp only at e
    have HQ : Hid (sameV (⟨3, t, p, g, b, m⟩ : Flt) ⟨3, t, 0, 0, b, 0⟩ = shapeB ⟨3, t, p, g, b, m⟩) := by
      refine sameV_eq ?_
      simp [shapeB]
    go_enter Try.func53, Try.ntmps53
    go_wp2
    go_ret
    refine ⟨?_, ?_⟩
    · rw [HF.out, ← HQ.out]; rfl
    · exact H2.out.alloc (by simp; omega) _
  by_cases k4 : k = 4
  · subst k4
    have e : ∀ W, _ := fun W => flt_same (a := ⟨4, t, p, g, b, m⟩) (b := ⟨4, t, p, 0, b, m⟩) HX.out ⟨(rfl : (Lit.int .i64 4).wf = true), HX.out.at_, HX.out.page, (rfl : (Lit.int .i64 0).wf = true), HX.out.byte, HX.out.mask⟩ W
    simp only at e
    by_cases hm : m = 0
    · subst hm
      clear e
      have hq : shapeB ⟨4, t, p, g, b, 0⟩ = false := by simp [shapeB]
      have HQ := Lib.hid hq
      clear hq
      go_enter Try.func53, Try.ntmps53
      go_wp2
      go_region
      go_wp2
      go_ret
      refine ⟨?_, ?_⟩
      · rw [HF.out, HQ.out]; rfl
      · first | exact H2.out.alloc (by simp; omega) _ | exact (H2.out.alloc (by simp; omega) _).drew | exact H2.out.drew.alloc (by simp; omega) _
    · have hmb : (m == 0) = false := by rw [beq_eq_false_iff_ne]; exact hm
      have HQ : Hid (sameV (⟨4, t, p, g, b, m⟩ : Flt) ⟨4, t, p, 0, b, m⟩ = shapeB ⟨4, t, p, g, b, m⟩) := by
        refine sameV_eq ?_
        simp [shapeB, hm]
      clear hm
      go_enter Try.func53, Try.ntmps53
      go_wp2
      go_region
      go_wp2
      go_ret
      refine ⟨?_, ?_⟩
      · rw [HF.out, ← HQ.out]; rfl
      · first | exact H2.out.alloc (by simp; omega) _ | exact (H2.out.alloc (by simp; omega) _).drew | exact H2.out.drew.alloc (by simp; omega) _
  by_cases k5 : k = 5
  · subst k5
    have e : ∀ W, _ := fun W => flt_same (a := ⟨5, t, p, g, b, m⟩) (b := ⟨5, t, p, 0, 0, 0⟩) HX.out ⟨(rfl : (Lit.int .i64 5).wf = true), HX.out.at_, HX.out.page, (rfl : (Lit.int .i64 0).wf = true), (rfl : (Lit.int .i64 0).wf = true), (rfl : (Lit.int .u8 0).wf = true)⟩ W
    simp only at e
    have HQ : Hid (sameV (⟨5, t, p, g, b, m⟩ : Flt) ⟨5, t, p, 0, 0, 0⟩ = shapeB ⟨5, t, p, g, b, m⟩) := by
      refine sameV_eq ?_
      simp [shapeB]
    go_enter Try.func53, Try.ntmps53
    go_wp2
    go_ret
    refine ⟨?_, ?_⟩
    · rw [HF.out, ← HQ.out]; rfl
    · exact H2.out.alloc (by simp; omega) _
  have HQ : Hid (shapeB ⟨k, t, p, g, b, m⟩ = false) := by show _ = _; simp [shapeB, k1, k2, k3, k4, k5, k6]
  have e1 : (k == 1) = false := by rw [beq_eq_false_iff_ne]; exact k1
  have e2 : (k == 2) = false := by rw [beq_eq_false_iff_ne]; exact k2
  have e3 : (k == 3) = false := by rw [beq_eq_false_iff_ne]; exact k3
  have e4 : (k == 4) = false := by rw [beq_eq_false_iff_ne]; exact k4
  have e5 : (k == 5) = false := by rw [beq_eq_false_iff_ne]; exact k5
  have e6 : (k == 6) = false := by rw [beq_eq_false_iff_ne]; exact k6
  clear k1 k2 k3 k4 k5 k6
  go_enter Try.func53, Try.ntmps53
  go_wp2
  go_ret
  refine ⟨?_, ?_⟩
  · rw [HF.out, HQ.out]; rfl
  · exact H2.out.alloc (by simp; omega) _
theorem rfault_any (a : Option Addr) (n cap : Nat) (wr : Int) (u : Value) (dead : Bool) (f : Value) (x : Flt) (w : World) (hx : GoodFlt x) :
    Calls Try.prog 53 #[.agg #[.slice a n cap, .int .i64 wr, u, .bool dead, f], .agg (fltCells x).toArray] w fun e w' => e = .returned (.bool (fltOkB n wr x)) ∧ Below w.heap.size w w' := by
  cases hr : rangesB n wr x
  · exact rfault_bad a n cap wr u dead f x w hr
  · exact rfault_good a n cap wr u dead f x w hx hr
end Go.Proofs.Ytlmbnofkmmehoaa
/- the walk of the reference's 'has' -/
namespace Go.Proofs.Ytlmbnofkmmehoaa
open Go.RowKit
set_option maxRecDepth 20000

theorem SlRd.open {v : Value} {z n : Nat} {xs : List Value} {R : List Rng} (h : SlRd v z n xs R) {w : World} (hR : RdIn w R) :
    ∃ a cap, v = .slice a n cap ∧ n ≤ cap ∧ cap ≤ maxLen ∧ Hid (0 < n → ∃ g off, a = some ⟨g, off, none⟩ ∧ ∀ W, Below w.heap.size w W → W.rangeAt g off xs) := by
  obtain ⟨a, cap, h1, h2, h3, h4, h5, _⟩ := h
  refine ⟨a, cap, h1, h3, h4, fun h0 => ?_⟩
  obtain ⟨g, off, h6, h7⟩ := h5 h0
  refine ⟨g, off, h6, fun W hb => ?_⟩
  exact (hR.below hb _ h7).2
theorem intRow_at (l : List Int) (k : Nat) (h : k < l.length) : (intRow l)[k]? = some (.int .i64 l[k]) := by
  unfold intRow
  rw [List.getElem?_map, List.getElem?_eq_getElem h]
  rfl
theorem hasB_take {l : List Int} {n : Int} {k : Nat} (h : k < l.length) : hasB (l.take (k + 1)) n = (hasB (l.take k) n || decide (l[k] = n)) := by
  unfold hasB
  rw [List.take_succ_eq_append_getElem h, List.any_append]
  simp
theorem hasB_true {l : List Int} {n : Int} {k : Nat} (h : k < l.length) (e : l[k] = n) : hasB l n = true := by
  unfold hasB
  rw [List.any_eq_true]
  exact ⟨l[k], List.getElem_mem h, by simp [e]⟩
set_option maxHeartbeats 4000000 in
theorem has_any (l : List Int) (n : Int) (v : Value) (R : List Rng) (w : World) (hv : SlRd v 1 l.length (intRow l) R) (hR : RdIn w R) :
    Calls Try.prog 57 #[v, .int .i64 n] w fun e w' => e = .returned (.bool (hasB l n)) ∧ Below w.heap.size w w' := by
  obtain ⟨a, cap, rfl, hnc, hcm, hg⟩ := hv.open hR
  have HC : Hid (l.length ≤ cap ∧ cap ≤ maxLen) := ⟨hnc, hcm⟩
  clear hv hR hnc hcm
  go_enter Try.func57, Try.ntmps57
  go_wp2_with fail
  go_loopw [5] (fun i wr => ∃ k : Nat, k ≤ l.length ∧ i = .int .i64 k ∧ hasB (l.take k) n = false ∧ Below w.heap.size w wr) (fun i _ => l.length - (intOf i).toNat)
  case atStart => exact ⟨0, by omega, rfl, rfl, Below.refl _ _⟩
  case round =>
    obtain ⟨k, hk, rfl, hh, hb⟩ := hrel
    have HB := Lib.hid hb
    have HH := Lib.hid hh
    clear hb hh
    by_cases hlt : k < l.length
    · obtain ⟨g, off, rfl, hr⟩ := hg.out (by omega)
      have hc : wr.cell? ⟨g, off + k, none⟩ = some (.int .i64 l[k]) := hr wr HB.out k _ (intRow_at l k hlt)
      have hki : (k : Int) < (l.length : Int) := by omega
      have hk0 : (0 : Int) ≤ (k : Int) := by omega
      have hkm : (k : Int) < 9223372036854775807 := by have := HC.out; unfold maxLen at this; omega
      have HLt := Lib.hid hlt
      by_cases hx : l[k] = n
      · have hxb : (l[k] == n) = true := by simp [hx]
        have HX : Hid (hasB l n = true) := hasB_true hlt hx
        clear hr hx hg
        generalize l[k] = y at *
        go_wp2_with fail
        go_ret
        exact ⟨by rw [HX.out]; rfl, HB.out⟩
      · have hxb : (l[k] == n) = false := by rw [beq_eq_false_iff_ne]; exact hx
        have HX : Hid (hasB (l.take (k + 1)) n = false) := by show _ = _; rw [hasB_take hlt, HH.out, Bool.false_or]; exact decide_eq_false hx
        clear hr hx hg
        generalize l[k] = y at *
        go_wp2_with fail
        go_roundw
        case rel => exact ⟨k + 1, by omega, by go_num, HX.out, HB.out⟩
        case measure => simp [intOf]; omega
    · obtain rfl : k = l.length := by omega
      rw [List.take_length] at HH
      go_wp2_with fail
      go_ret
      exact ⟨by rw [HH.out]; rfl, HB.out⟩
end Go.Proofs.Ytlmbnofkmmehoaa
/- the walk of the reference's check of a device -/
namespace Go.Proofs.Ytlmbnofkmmehoaa
open Go.RowKit
set_option maxRecDepth 20000

theorem strRow_at (l : List ByteArray) (k : Nat) (h : k < l.length) : (strRow l)[k]? = some (.string l[k]) := by
  unfold strRow
  rw [List.getElem?_map, List.getElem?_eq_getElem h]
  rfl
theorem fltRow_at : ∀ (l : List Flt) (k : Nat) (h : k < l.length) (j : Nat) (v : Value), (fltCells l[k])[j]? = some v → (fltRow l)[k * 6 + j]? = some v
  | [], k, h, _, _, _ => by simp at h
  | x :: l, 0, h, j, v, hv => by
    have hv' : (fltCells x)[j]? = some v := hv
    show (fltCells x ++ fltRow l)[0 * 6 + j]? = _
    rw [Nat.zero_mul, Nat.zero_add, List.getElem?_append_left (List.getElem?_eq_some_iff.1 hv').1]
    exact hv'
  | x :: l, k + 1, h, j, v, hv => by
    show (fltCells x ++ fltRow l)[(k + 1) * 6 + j]? = _
    rw [show (k + 1) * 6 + j = 6 + (k * 6 + j) from by omega, List.getElem?_append_right (by simp [fltCells]), show (fltCells x).length = 6 from rfl, Nat.add_sub_cancel_left]
    exact fltRow_at l k (by simpa using h) j v hv
theorem all_take {α : Type} {l : List α} {f : α → Bool} {k : Nat} (h : k < l.length) (ha : (l.take k).all f = true) (hx : f l[k] = true) : (l.take (k + 1)).all f = true := by
  rw [List.take_succ_eq_append_getElem h, List.all_append, ha]
  simp [hx]
theorem all_no {α : Type} {l : List α} {f : α → Bool} {k : Nat} (h : k < l.length) (hx : f l[k] = false) : l.all f = false := all_false (List.getElem_mem h) hx
theorem range_take {k : Nat} {f : Nat → Bool} (ha : (List.range k).all f = true) (hx : f k = true) : (List.range (k + 1)).all f = true := by
  rw [List.range_succ, List.all_append, ha]
  simp [hx]
theorem range_no {n k : Nat} {f : Nat → Bool} (h : k < n) (hx : f k = false) : (List.range n).all f = false := all_false (List.mem_range.2 h) hx
set_option maxHeartbeats 4000000 in
theorem rvalid_bad (d : Dv) (pa ua fa : Option Addr) (pc uc fc : Nat) (w : World) (hr : numsB d = false) :
    Calls Try.prog 23 #[.agg #[.slice pa d.pages.length pc, .int .i64 d.writes, .slice ua d.unread.length uc, .bool d.dead, .slice fa d.faults.length fc]] w fun e w' => e = .returned (.bool (dvOkB d)) ∧ Below w.heap.size w w' := by
  have HF : Hid (dvOkB d = false) := by show _ = _; unfold dvOkB; rw [hr]; rfl
  have fin : Hid (∀ W, W = (w.alloc (.cells #[.slice pa d.pages.length pc, .int .i64 d.writes, .slice ua d.unread.length uc, .bool d.dead, .slice fa d.faults.length fc] 27)) → Below w.heap.size w W) := by
    rintro W rfl
    exact (Below.refl _ _).alloc (Nat.le_refl _) _
  unfold numsB at hr
  generalize d.pages.length = n at *
  generalize d.writes = wr at *
  generalize d.faults.length = m at *
  by_cases c1 : (n : Int) < 1
  · clear hr
    go_enter Try.func23, Try.ntmps23
    go_wp2
    go_ret
    exact ⟨by rw [HF.out]; rfl, fin.out _ rfl⟩
  by_cases c2 : 64 < (n : Int)
  · clear hr
    go_enter Try.func23, Try.ntmps23
    go_wp2
    go_ret
    exact ⟨by rw [HF.out]; rfl, fin.out _ rfl⟩
  by_cases c3 : wr < 0
  · clear hr
    go_enter Try.func23, Try.ntmps23
    go_wp2
    go_ret
    exact ⟨by rw [HF.out]; rfl, fin.out _ rfl⟩
  by_cases c4 : 1099511627776 < wr
  · clear hr
    go_enter Try.func23, Try.ntmps23
    go_wp2
    go_ret
    exact ⟨by rw [HF.out]; rfl, fin.out _ rfl⟩
  by_cases c5 : 64 < (m : Int)
  · clear hr
    go_enter Try.func23, Try.ntmps23
    go_wp2
    go_ret
    exact ⟨by rw [HF.out]; rfl, fin.out _ rfl⟩
  · exact absurd hr (by simp [c1, c2, c3, c4, c5])
set_option maxHeartbeats 16000000 in
set_option maxRecDepth 20000 in
theorem rvalid_good (d : Dv) (pa ua fa : Option Addr) (pc uc fc : Nat) (w : World) (hr : numsB d = true) (hc : d.unread.length ≤ 1000)
    (hp : 0 < d.pages.length → ∃ g off, pa = some ⟨g, off, none⟩ ∧ ∀ W, Below w.heap.size w W → W.rangeAt g off (strRow d.pages))
    (hu : 0 < d.unread.length → ∃ g off, ua = some ⟨g, off, none⟩ ∧ ∀ W, Below w.heap.size w W → W.rangeAt g off (intRow d.unread))
    (hf : 0 < d.faults.length → ∃ g off, fa = some ⟨g, off, none⟩ ∧ ∀ W, Below w.heap.size w W → W.rangeAt g off (fltRow d.faults))
    (hcp : d.pages.length ≤ pc ∧ d.unread.length ≤ uc ∧ d.faults.length ≤ fc) (hg : ∀ x ∈ d.faults, GoodFlt x) (hs256 : ∀ s ∈ d.pages, s.size ≤ maxLen) :
    Calls Try.prog 23 #[.agg #[.slice pa d.pages.length pc, .int .i64 d.writes, .slice ua d.unread.length uc, .bool d.dead, .slice fa d.faults.length fc]] w fun e w' => e = .returned (.bool (dvOkB d)) ∧ Below w.heap.size w w' := by
  have HN : Hid (dvOkB d = (pagesB d && (unreadB d && faultsB d))) := by show _ = _; unfold dvOkB; rw [hr]; rfl
  have HP := Lib.hid hp
  have HU := Lib.hid hu
  have HFr := Lib.hid hf
  have HG := Lib.hid hg
  have HS := Lib.hid hs256
  have HUl := Lib.hid hc
  have HCp := Lib.hid hcp
  obtain ⟨fs, hud⟩ := under_dv
  have HUD := Lib.hid hud
  obtain ⟨fs', huf⟩ := under_flt
  have HUF := Lib.hid huf
  unfold numsB at hr
  clear hp hu hf hg hs256 hud huf hc hcp
  simp only [Bool.and_eq_true, Bool.not_eq_true', decide_eq_false_iff_not] at hr
  obtain ⟨c1, c2, c3, c4, c5⟩ := hr
  have hn64 : (d.pages.length : Int) ≤ 64 := by omega
  have hm64 : (d.faults.length : Int) ≤ 64 := by omega
  have h1 := (Hp.start w).put 27 (dvCells (.slice pa d.pages.length pc) d (.slice ua d.unread.length uc) (.slice fa d.faults.length fc))
  have HS0 : Hid (Hp w [.ob w.heap.size 27 (dvCells (.slice pa d.pages.length pc) d (.slice ua d.unread.length uc) (.slice fa d.faults.length fc))] (w.alloc (.cells #[.slice pa d.pages.length pc, .int .i64 d.writes, .slice ua d.unread.length uc, .bool d.dead, .slice fa d.faults.length fc] 27))) := h1
  clear h1
  go_enter Try.func23, Try.ntmps23
  go_wp2_with fail
  clear c1 c2 c3 c4 c5
  go_loopw [4] (fun i wr => ∃ k : Nat, k ≤ d.pages.length ∧ i = .int .i64 k ∧ (d.pages.take k).all (fun s => decide (s.size = 256)) = true ∧ Hp w [.ob w.heap.size 27 (dvCells (.slice pa d.pages.length pc) d (.slice ua d.unread.length uc) (.slice fa d.faults.length fc))] wr) (fun i _ => d.pages.length - (intOf i).toNat)
  case atStart => exact ⟨0, by omega, rfl, rfl, HS0.out⟩
  case round =>
    obtain ⟨k, hk, rfl, hh, hs⟩ := hrel
    clear HS0
    have HY := Lib.hid hs
    have HH := Lib.hid hh
    clear hs hh
    have b0 : wr.cell? ⟨w.heap.size, 0, none⟩ = some (.slice pa d.pages.length pc) := HY.out.at 0 rfl 0 rfl
    have b2 : wr.cell? ⟨w.heap.size, 2, none⟩ = some (.slice ua d.unread.length uc) := HY.out.at 0 rfl 2 rfl
    by_cases hlt : k < d.pages.length
    · obtain ⟨g, off, rfl, hr⟩ := HP.out (by omega)
      have hcell : wr.cell? ⟨g, off + k, none⟩ = some (.string d.pages[k]) := hr wr HY.out.old k _ (strRow_at d.pages k hlt)
      have hki : (k : Int) < (d.pages.length : Int) := by omega
      have hk0 : (0 : Int) ≤ (k : Int) := by omega
      have hkm : (k : Int) < 1000 := by omega
      have hsz : (d.pages[k].size : Int) ≤ 9223372036854775807 := by have := HS.out _ (List.getElem_mem hlt); unfold maxLen at this; omega
      by_cases hx : d.pages[k].size = 256
      · have hxb : ((d.pages[k].size : Int) != 256) = false := by simp [hx]
        have HX := Lib.hid (all_take (f := fun s => decide (s.size = 256)) hlt HH.out (by simp [hx]))
        clear hr hx hsz
        generalize d.pages[k] = y at *
        go_wp2_with fail
        go_roundw
        case rel => exact ⟨k + 1, by omega, by go_num, HX.out, HY.out⟩
        case measure => simp [intOf]; omega
      · have hxb : ((d.pages[k].size : Int) != 256) = true := by simp; omega
        have HX : Hid (pagesB d = false) := by
          show _ = _
          exact all_no (f := fun s => decide (s.size = 256)) hlt (by simp [hx])
        clear hr hx hsz
        generalize d.pages[k] = y at *
        go_wp2_with fail
        go_ret
        exact ⟨by rw [HN.out, HX.out]; rfl, HY.out.old⟩
    · obtain rfl : k = d.pages.length := by omega
      rw [List.take_length] at HH
      have HPg : Hid (pagesB d = true) := HH.out
      clear HH hk hlt
      go_wp2_with fail
      go_loopw [5] (fun i wr => ∃ k : Nat, k ≤ d.unread.length ∧ i = .int .i64 k ∧ (List.range k).all (unreadAtB d.pages.length d.unread) = true ∧ Hp w [.ob w.heap.size 27 (dvCells (.slice pa d.pages.length pc) d (.slice ua d.unread.length uc) (.slice fa d.faults.length fc))] wr) (fun i _ => d.unread.length - (intOf i).toNat)
      case atStart => exact ⟨0, by omega, rfl, rfl, HY.out⟩
      case round =>
        clear HY b0 b2
        rename_i wr0 _ _ _ wr
        obtain ⟨k, hk, rfl, hh, hs⟩ := hrel
        have HY := Lib.hid hs
        have HH := Lib.hid hh
        clear hs hh
        have b2 : wr.cell? ⟨w.heap.size, 2, none⟩ = some (.slice ua d.unread.length uc) := HY.out.at 0 rfl 2 rfl
        have b4 : wr.cell? ⟨w.heap.size, 4, none⟩ = some (.slice fa d.faults.length fc) := HY.out.at 0 rfl 4 rfl
        by_cases hlt : k < d.unread.length
        · obtain ⟨g, off, rfl, hr⟩ := HU.out (by omega)
          obtain ⟨y, hy⟩ : ∃ y, d.unread[k] = y := ⟨_, rfl⟩
          have hcell : wr.cell? ⟨g, off + k, none⟩ = some (.int .i64 y) := by rw [← hy]; exact hr wr HY.out.old k _ (intRow_at d.unread k hlt)
          have hyD : d.unread.getD k 0 = y := by rw [List.getD_eq_getElem?_getD, List.getElem?_eq_getElem hlt]; exact hy
          have hki : (k : Int) < (d.unread.length : Int) := by omega
          have hk0 : (0 : Int) ≤ (k : Int) := by omega
          have hkm : (k : Int) < 1000 := by have := HUl.out; omega
          have HB := Lib.hid (fun q => HY.out.drewN q)
          have HNo : Hid (unreadAtB d.pages.length d.unread k = false → unreadB d = false) := fun h => range_no hlt h
          have HYes : Hid (unreadAtB d.pages.length d.unread k = true → (List.range (k + 1)).all (unreadAtB d.pages.length d.unread) = true) := fun h => range_take HH.out h
          by_cases hA : y < 0
          · have dA : decide (y < 0) = true := decide_eq_true hA
            have HX := Lib.hid (HNo.out (by unfold unreadAtB; rw [hyD]; simp [hA]))
            clear hr hA hy hyD HYes HNo
            go_wp2_with fail
            go_quiet (fail)
            go_wp2_with fail
            go_ret
            exact ⟨by rw [HN.out, HPg.out, HX.out]; rfl, (HB.out _).old⟩
          · have dA : decide (y < 0) = false := decide_eq_false hA
            by_cases hB : (d.pages.length : Int) ≤ y
            · have dB : decide ((d.pages.length : Int) ≤ y) = true := decide_eq_true hB
              have HX := Lib.hid (HNo.out (by unfold unreadAtB; rw [hyD]; simp [hB]))
              clear hr hA hB hy hyD HYes HNo
              go_wp2_with fail
              go_quiet (fail)
              go_wp2_with fail
              go_ret
              exact ⟨by rw [HN.out, HPg.out, HX.out]; rfl, (HB.out _).old⟩
            · have dB : decide ((d.pages.length : Int) ≤ y) = false := decide_eq_false hB
              by_cases hC : 0 < k
              case neg =>
                have HX := Lib.hid (HYes.out (by unfold unreadAtB; rw [hyD]; simp [hA, hB, hC]))
                have dC : decide ((0 : Int) < (k : Int)) = false := decide_eq_false (by omega)
                have dC2 : decide (0 < k) = false := decide_eq_false hC
                have hkz : k = 0 := by omega
                clear hr hA hB hC hy hyD HYes HNo hkz
                go_wp2_with fail
                go_quiet (fail)
                go_wp2_with fail
                go_roundw
                case rel => exact ⟨_, by omega, by go_num, HX.out, HB.out _⟩
                case measure => simp [intOf]; omega
              case pos =>
                obtain ⟨j, rfl⟩ : ∃ j, k = j + 1 := ⟨k - 1, by omega⟩
                have hjl : j < d.unread.length := by omega
                obtain ⟨x, hx⟩ : ∃ x, d.unread[j] = x := ⟨_, rfl⟩
                have hcell2 : wr.cell? ⟨g, off + j, none⟩ = some (.int .i64 x) := by rw [← hx]; exact hr wr HY.out.old j _ (intRow_at d.unread j hjl)
                have hxD : d.unread.getD j 0 = x := by rw [List.getD_eq_getElem?_getD, List.getElem?_eq_getElem hjl]; exact hx
                have hj1 : IntKind.i64.wrap (((j + 1 : Nat) : Int) - 1) = (j : Int) := by rw [show ((j + 1 : Nat) : Int) - 1 = (j : Int) from by omega]; exact IntWalk.i64_in _ (by omega)
                have hji : (j : Int) < (d.unread.length : Int) := by omega
                have hj0 : (0 : Int) ≤ (j : Int) := by omega
                have dC : decide ((0 : Int) < ((j + 1 : Nat) : Int)) = true := decide_eq_true (by omega)
                by_cases hD : y ≤ x
                · have dD : decide (y ≤ x) = true := decide_eq_true hD
                  have HX := Lib.hid (HNo.out (by unfold unreadAtB; rw [hyD, Nat.add_sub_cancel, hxD]; simp [hD]))
                  clear hr hA hB hD hy hyD hx hxD HYes HNo
                  go_wp2_with fail
                  go_quiet (fail)
                  go_wp2_with fail
                  go_ret
                  exact ⟨by rw [HN.out, HPg.out, HX.out]; rfl, (HB.out _).old⟩
                · have dD : decide (y ≤ x) = false := decide_eq_false hD
                  have HX := Lib.hid (HYes.out (by unfold unreadAtB; rw [hyD, Nat.add_sub_cancel, hxD]; simp [hA, hB, hD]))
                  clear hr hA hB hD hy hyD hx hxD HYes HNo
                  go_wp2_with fail
                  go_quiet (fail)
                  go_wp2_with fail
                  go_roundw
                  case rel => exact ⟨_, by omega, by go_num, HX.out, HB.out _⟩
                  case measure => simp [intOf]; omega
        · obtain rfl : k = d.unread.length := by omega
          have HUn : Hid (unreadB d = true) := HH.out
          clear HH hk hlt
          go_wp2_with fail
          go_loopw [6] (fun i wr => ∃ k : Nat, k ≤ d.faults.length ∧ i = .int .i64 k ∧ (d.faults.take k).all (fltOkB d.pages.length d.writes) = true ∧ Hp w [.ob w.heap.size 27 (dvCells (.slice pa d.pages.length pc) d (.slice ua d.unread.length uc) (.slice fa d.faults.length fc))] wr) (fun i _ => d.faults.length - (intOf i).toNat)
          case atStart => exact ⟨0, by omega, rfl, rfl, HY.out⟩
          case round =>
            clear HY b2 b4
            rename_i wr0 _ _ _ wr
            obtain ⟨k, hk, rfl, hh, hs⟩ := hrel
            have HY := Lib.hid hs
            have HH := Lib.hid hh
            clear hs hh
            have b4 : wr.cell? ⟨w.heap.size, 4, none⟩ = some (.slice fa d.faults.length fc) := HY.out.at 0 rfl 4 rfl
            by_cases hlt : k < d.faults.length
            · obtain ⟨g, off, rfl, hr⟩ := HFr.out (by omega)
              obtain ⟨x, hx⟩ : ∃ x, d.faults[k] = x := ⟨_, rfl⟩
              have HRg : Hid (∀ W, Below w.heap.size w W → W.rangeAt g (off + k * 6) (fltCells x)) := fun W hb j v hv => by
                have := hr W hb (k * 6 + j) v (fltRow_at d.faults k hlt j v (by rw [hx]; exact hv))
                rw [Nat.add_assoc]
                exact this
              have HNo : Hid (fltOkB d.pages.length d.writes x = false → faultsB d = false) := fun h => all_no (f := fltOkB d.pages.length d.writes) hlt (by rw [hx]; exact h)
              have HYes : Hid (fltOkB d.pages.length d.writes x = true → (d.faults.take (k + 1)).all (fltOkB d.pages.length d.writes) = true) := fun h => all_take (f := fltOkB d.pages.length d.writes) hlt HH.out (by rw [hx]; exact h)
              have hGx : GoodFlt x := HG.out x (by rw [← hx]; exact List.getElem_mem hlt)
              have HVx : Hid (∀ W, Calls Try.prog 53 #[.agg (dvCells (.slice pa d.pages.length pc) d (.slice ua d.unread.length uc) (.slice (some ⟨g, off, none⟩) d.faults.length fc)).toArray, .agg (fltCells x).toArray] W fun e w' => e = .returned (.bool (fltOkB d.pages.length d.writes x)) ∧ Below W.heap.size W w') := fun W => rfault_any pa d.pages.length pc d.writes _ d.dead _ x W hGx
              have hki : (k : Int) < (d.faults.length : Int) := by omega
              have hk0 : (0 : Int) ≤ (k : Int) := by omega
              have hkm : (k : Int) < 1000 := by omega
              clear hr hx hGx
              generalize fltOkB d.pages.length d.writes x = vb at *
              go_upto_region 17 with (fail)
              refine wp_region_held_drew (S := fun w' => w'.rangeAt w.heap.size 0 (dvCells (.slice pa d.pages.length pc) d (.slice ua d.unread.length uc) (.slice (some ⟨g, off, none⟩) d.faults.length fc)) ∧ w'.rangeAt g (off + k * 6) (fltCells x)) (by kernel_rfl) (⟨fun j v hv => by rw [Nat.zero_add]; exact (HY.out.drew).at 0 rfl j hv, HRg.out _ (HY.out.drew).old⟩) (fun hHeld => ?_)
              refine wpAnyH_take (i := 0) (oi := { dst := some 91, op := Op.load 27 (Operand.tmp 1), type := 27, pos := "ref.go:65", after := #[], guard := none }) rfl (by kernel_rfl) (by kernel_rfl) (by kernel_rfl) (fun _ _ _ h => h) (yieldsIf_load_mid (by rfl) 27 (.tmp 1) rfl w.heap.size (0) rfl (dvCells (.slice pa d.pages.length pc) d (.slice ua d.unread.length uc) (.slice (some ⟨g, off, none⟩) d.faults.length fc)) _ (fun _ h => h.1) HUD.out rfl (info_dv)) hHeld ?_
              try simp only [Act.put, List.setIfInBounds_toArray, List.set_cons_zero, List.set_cons_succ]
              refine wpAnyH_take (i := 1) (oi := { dst := some 92, op := Op.fieldAddr 27 (Operand.tmp 1) 4, type := 0, pos := "ref.go:65", after := #[], guard := none }) (v := ?q2v) rfl (by kernel_rfl) (by kernel_rfl) (by kernel_rfl) (fun _ _ _ h => h) (Or.inl ⟨by rfl, ?q2h⟩) hHeld ?q2r
              case q2h => (intro wq hSw; clear hSw; go_simp; try with_reducible rfl)
              try simp only [Act.put, List.setIfInBounds_toArray, List.set_cons_zero, List.set_cons_succ]
              refine wpAnyH_take (i := 2) (oi := { dst := some 93, op := Op.load 25 (Operand.tmp 92), type := 25, pos := "ref.go:65", after := #[{ on := 1, ground := Ground.data }], guard := none }) (v := ?q3v) rfl (by kernel_rfl) (by kernel_rfl) (by kernel_rfl) (fun _ _ _ h => h) (Or.inl ⟨by rfl, ?q3h⟩) hHeld ?q3r
              case q3h => (intro wq hSw; have hq := hSw.1 4 _ rfl; simp only [Nat.zero_add] at hq; go_simp; try with_reducible rfl)
              try simp only [Act.put, List.setIfInBounds_toArray, List.set_cons_zero, List.set_cons_succ]
              refine wpAnyH_take (i := 3) (oi := { dst := some 94, op := Op.move (Operand.tmp 6), type := 3, pos := "ref.go:65", after := #[], guard := none }) (v := ?q4v) rfl (by kernel_rfl) (by kernel_rfl) (by kernel_rfl) (fun _ _ _ h => h) (Or.inl ⟨by rfl, ?q4h⟩) hHeld ?q4r
              case q4h => (intro wq hSw; clear hSw; go_simp; try with_reducible rfl)
              try simp only [Act.put, List.setIfInBounds_toArray, List.set_cons_zero, List.set_cons_succ]
              refine wpAnyH_take (i := 4) (oi := { dst := some 95, op := Op.indexAddr 25 (Operand.tmp 93) (Operand.tmp 94), type := 0, pos := "ref.go:65", after := #[{ on := 2, ground := Ground.data }, { on := 3, ground := Ground.data }], guard := none }) (v := ?q5v) rfl (by kernel_rfl) (by kernel_rfl) (by kernel_rfl) (fun _ _ _ h => h) (Or.inl ⟨by rfl, ?q5h⟩) hHeld ?q5r
              case q5h => (intro wq hSw; clear hSw; go_simp; try with_reducible rfl)
              try simp only [Act.put, List.setIfInBounds_toArray, List.set_cons_zero, List.set_cons_succ]
              refine wpAnyH_take (i := 5) (oi := { dst := some 96, op := Op.load 29 (Operand.tmp 95), type := 29, pos := "ref.go:65", after := #[{ on := 4, ground := Ground.data }], guard := none }) rfl (by kernel_rfl) (by kernel_rfl) (by kernel_rfl) (fun _ _ _ h => h) (yieldsIf_load_mid (by rfl) 29 (.tmp 95) rfl g (off + k * 6) rfl (fltCells x) _ (fun _ h => h.2) HUF.out rfl (info_flt)) hHeld ?_
              try simp only [Act.put, List.setIfInBounds_toArray, List.set_cons_zero, List.set_cons_succ]
              refine wpAnyH_ready (rs := [6]) (by kernel_rfl) (by simp) ?_
              refine AllReadyH.cons (o := { dst := some 97, op := Op.call { callee := Callee.value (Operand.func 53), args := #[Operand.tmp 91, Operand.tmp 96], argTypes := #[27, 29] }, type := 4, pos := "ref.go:65", after := #[{ on := 0, ground := Ground.data }, { on := 5, ground := Ground.data }], guard := none }) rfl (fun K hK => ?_) (AllReadyH.nil)
              go_simp
              go_wp2_with (go_at_call 53; refine (HVx.out _).mono ?_; rintro e w21 ⟨rfl, hb⟩)
              have HS21 : Hid (Hp w [.ob (w.heap.size) 27 (dvCells (.slice pa d.pages.length pc) d (.slice ua d.unread.length uc) (.slice (some ⟨g, off, none⟩) d.faults.length fc))] w21) := ((HY.out).drew).calls hb
              refine hK.out _ _ (⟨fun j v hv => by rw [Nat.zero_add]; exact HS21.out.at 0 rfl j hv, HRg.out _ HS21.out.old⟩) (fun hHeld => ?_)
              clear hK K hb
              try simp only [Act.put, List.setIfInBounds_toArray, List.set_cons_zero, List.set_cons_succ]
              refine wpAnyH_take (i := 7) (oi := { dst := some 98, op := Op.unOp UnOp.not 4 (Operand.tmp 97), type := 4, pos := "ref.go:65", after := #[{ on := 6, ground := Ground.data }], guard := none }) (v := ?q7v) rfl (by kernel_rfl) (by kernel_rfl) (by kernel_rfl) (fun _ _ _ h => h) (Or.inl ⟨by rfl, ?q7h⟩) hHeld ?q7r
              case q7h => (intro wq hSw; clear hSw; go_simp; try with_reducible rfl)
              try simp only [Act.put, List.setIfInBounds_toArray, List.set_cons_zero, List.set_cons_succ]
              refine wpAnyH_done (by kernel_rfl) ?_ _
              cases vb
              · have HX := Lib.hid (HNo.out rfl)
                go_wp2_with fail
                go_ret
                exact ⟨by rw [HN.out, HPg.out, HUn.out, HX.out]; rfl, HS21.out.old⟩
              · have HX := Lib.hid (HYes.out rfl)
                go_wp2_with fail
                go_roundw
                case rel => exact ⟨k + 1, by omega, by go_num, HX.out, HS21.out⟩
                case measure => simp [intOf]; omega
            · obtain rfl : k = d.faults.length := by omega
              rw [List.take_length] at HH
              have HFt : Hid (faultsB d = true) := HH.out
              clear HH hk hlt
              go_wp2_with fail
              go_ret
              exact ⟨by rw [HN.out, HPg.out, HUn.out, HFt.out]; rfl, HY.out.old⟩
theorem rvalid_any {p u f : Value} {d : Dv} {R : List Rng} (w : World) (h : DvRd p u f d R) (hR : RdIn w R) (hg : ∀ x ∈ d.faults, GoodFlt x) (hs : ∀ s ∈ d.pages, s.size ≤ maxLen) (hl : d.unread.length ≤ 1000) :
    Calls Try.prog 23 #[.agg (dvCells p d u f).toArray] w fun e w' => e = .returned (.bool (dvOkB d)) ∧ Below w.heap.size w w' := by
  obtain ⟨pa, pc, rfl, p1, _, p2⟩ := h.pages.open hR
  obtain ⟨ua, uc, rfl, u1, _, u2⟩ := h.unread.open hR
  obtain ⟨fa, fc, rfl, f1, _, f2⟩ := h.faults.open hR
  cases hr : numsB d
  · exact rvalid_bad d pa ua fa pc uc fc w hr
  · exact rvalid_good d pa ua fa pc uc fc w hr hl p2.out u2.out f2.out ⟨p1, u1, f1⟩ hg hs
end Go.Proofs.Ytlmbnofkmmehoaa
/- the walks of the reference's usable and Read -/
namespace Go.Proofs.Ytlmbnofkmmehoaa
open Go.RowKit
set_option maxRecDepth 20000

/-- a device that a value of the program can be, and of which a walk is made -/
structure GoodDv (d : Dv) : Prop where
  faults : ∀ x ∈ d.faults, GoodFlt x
  pages : ∀ s ∈ d.pages, s.size ≤ maxLen
  unread : d.unread.length ≤ 1000
set_option maxHeartbeats 4000000 in
theorem rusable_any {p u f : Value} {d : Dv} {R : List Rng} (page : Int) (w : World) (h : DvRd p u f d R) (hR : RdIn w R) (hg : GoodDv d) :
    Calls Try.prog 47 #[.agg (dvCells p d u f).toArray, .int .i64 page] w fun e w' => e = .returned (.int .i64 (usableR d page)) ∧ Below w.heap.size w w' := by
  have HV : Hid (∀ W, Below w.heap.size w W → Calls Try.prog 23 #[.agg (dvCells p d u f).toArray] W fun e w' => e = .returned (.bool (dvOkB d)) ∧ Below W.heap.size W w') := fun W hb => rvalid_any W h (hR.below hb) hg.faults hg.pages hg.unread
  obtain ⟨fs, hud⟩ := under_dv
  have HUD := Lib.hid hud
  clear hud
  obtain ⟨pa, pc, rfl, p1, _, p2⟩ := h.pages.open hR
  obtain ⟨ua, uc, rfl, u1, _, u2⟩ := h.unread.open hR
  obtain ⟨fa, fc, rfl, f1, _, f2⟩ := h.faults.open hR
  clear h hR hg p2 u2 f2
  have h1 := (Hp.start w).put 27 (dvCells (.slice pa d.pages.length pc) d (.slice ua d.unread.length uc) (.slice fa d.faults.length fc))
  have HS0 : Hid (Hp w [.ob w.heap.size 27 (dvCells (.slice pa d.pages.length pc) d (.slice ua d.unread.length uc) (.slice fa d.faults.length fc))] (w.alloc (.cells (dvCells (.slice pa d.pages.length pc) d (.slice ua d.unread.length uc) (.slice fa d.faults.length fc)).toArray 27))) := h1
  clear h1
  have HUs : Hid (∀ n, usableR d page = n → Ending.returned (Value.int .i64 n) = .returned (.int .i64 (usableR d page))) := fun n hn => by rw [hn]
  go_enter Try.func47, Try.ntmps47
  go_wp2_with (first | ((with_reducible refine wpList_load_ob 27 (.tmp 2) (w.heap.size) (dvCells (.slice pa d.pages.length pc) d (.slice ua d.unread.length uc) (.slice fa d.faults.length fc)) 27 HUD.out ?_ ?_ ?_ ?_ ?_); (exact rfl); (exact (HS0.out).get 0 rfl); (exact rfl); (exact info_dv); simp only [Act.put, List.setIfInBounds_toArray, List.set_cons_zero, List.set_cons_succ]))
  refine (HV.out _ HS0.out.old).mono ?_
  rintro e w3 ⟨rfl, hb⟩
  have HS2 : Hid (Hp w [.ob (w.heap.size) 27 (dvCells (.slice pa d.pages.length pc) d (.slice ua d.unread.length uc) (.slice fa d.faults.length fc))] w3) := (HS0.out).calls hb
  clear hb
  clear HS0
  clear HV
  have b0 : w3.cell? ⟨w.heap.size, 0, none⟩ = some (.slice pa d.pages.length pc) := HS2.out.at 0 rfl 0 rfl
  have b3 : w3.cell? ⟨w.heap.size, 3, none⟩ = some (.bool d.dead) := HS2.out.at 0 rfl 3 rfl
  cases hv : dvOkB d
  · have HX : Hid (dvOkB d = false) := hv
    go_wp2_with fail
    go_ret
    exact ⟨HUs.out _ (by unfold usableR; simp [HX.out]), HS2.out.old⟩
  · have HX : Hid (dvOkB d = true) := hv
    cases hd : d.dead
    · have HD : Hid (d.dead = false) := hd
      rw [hd] at b3
      by_cases h1 : page < 0
      · have HP : Hid (page < 0) := h1
        go_wp2_with fail
        go_ret
        exact ⟨HUs.out _ (by unfold usableR; simp [HX.out, HD.out, HP.out]), HS2.out.old⟩
      · have HP : Hid (¬ page < 0) := h1
        by_cases h2 : (d.pages.length : Int) ≤ page
        · have HQ : Hid ((d.pages.length : Int) ≤ page) := h2
          go_wp2_with fail
          go_ret
          exact ⟨HUs.out _ (by unfold usableR; simp [HX.out, HD.out, HQ.out]), HS2.out.old⟩
        · have HQ : Hid (¬ (d.pages.length : Int) ≤ page) := h2
          go_wp2_with fail
          go_ret
          exact ⟨HUs.out _ (by unfold usableR; simp [HX.out, HD.out, HP.out, HQ.out]), HS2.out.old⟩
    · have HD : Hid (d.dead = true) := hd
      rw [hd] at b3
      go_wp2_with fail
      go_ret
      exact ⟨HUs.out _ (by unfold usableR; simp [HX.out, HD.out]), HS2.out.old⟩
theorem usable_ok {d : Dv} {page : Int} (h : usableR d page = 0) : dvOkB d = true ∧ d.dead = false ∧ 0 ≤ page ∧ page < (d.pages.length : Int) := by
  unfold usableR at h
  split at h
  · cases h
  · rename_i h1
    split at h
    · cases h
    · rename_i h2
      split at h
      · cases h
      · rename_i h3
        exact ⟨by simpa using h1, by simpa using h2, by omega, by omega⟩
theorem Hp.rng {w W : World} {L : List Th} (h : Hp w L W) {R : List Rng} (hR : RdIn w R) : RdIn W R := hR.below h.old
set_option maxHeartbeats 4000000 in
theorem rread_any {p u f : Value} {d : Dv} {R : List Rng} (page : Int) (w : World) (h : DvRd p u f d R) (hR : RdIn w R) (hg : GoodDv d) :
    Calls Try.prog 32 #[.agg (dvCells p d u f).toArray, .int .i64 page] w fun e w' => e = .returned (.tuple #[.string (readR d page).1, .int .i64 (readR d page).2]) ∧ Below w.heap.size w w' := by
  have HV : Hid (∀ W, Below w.heap.size w W → Calls Try.prog 47 #[.agg (dvCells p d u f).toArray, .int .i64 page] W fun e w' => e = .returned (.int .i64 (usableR d page)) ∧ Below W.heap.size W w') := fun W hb => rusable_any page W h (hR.below hb) hg
  have HHas : Hid (∀ W, Below w.heap.size w W → Calls Try.prog 57 #[u, .int .i64 page] W fun e w' => e = .returned (.bool (hasB d.unread page)) ∧ Below W.heap.size W w') := fun W hb => has_any d.unread page u R W h.unread (hR.below hb)
  obtain ⟨fs, hud⟩ := under_dv
  have HUD := Lib.hid hud
  clear hud
  obtain ⟨pa, pc, rfl, p1, _, p2⟩ := h.pages.open hR
  obtain ⟨ua, uc, rfl, u1, _, u2⟩ := h.unread.open hR
  obtain ⟨fa, fc, rfl, f1, _, f2⟩ := h.faults.open hR
  clear h hR hg u2 f2
  have h1 := (Hp.start w).put 27 (dvCells (.slice pa d.pages.length pc) d (.slice ua d.unread.length uc) (.slice fa d.faults.length fc))
  have HS0 : Hid (Hp w [.ob w.heap.size 27 (dvCells (.slice pa d.pages.length pc) d (.slice ua d.unread.length uc) (.slice fa d.faults.length fc))] (w.alloc (.cells (dvCells (.slice pa d.pages.length pc) d (.slice ua d.unread.length uc) (.slice fa d.faults.length fc)).toArray 27))) := h1
  clear h1
  have HUs : Hid (∀ s n, readR d page = (s, n) → Ending.returned (Value.tuple #[.string s, .int .i64 n]) = .returned (.tuple #[.string (readR d page).1, .int .i64 (readR d page).2])) := fun s n hn => by rw [hn]
  go_enter Try.func32, Try.ntmps32
  go_wp2_with (first | ((with_reducible refine wpList_load_ob 27 (.tmp 2) (w.heap.size) (dvCells (.slice pa d.pages.length pc) d (.slice ua d.unread.length uc) (.slice fa d.faults.length fc)) 27 HUD.out ?_ ?_ ?_ ?_ ?_); (exact rfl); (exact (HS0.out).get 0 rfl); (exact rfl); (exact info_dv); simp only [Act.put, List.setIfInBounds_toArray, List.set_cons_zero, List.set_cons_succ]))
  refine (HV.out _ HS0.out.old).mono ?_
  rintro e w3 ⟨rfl, hb⟩
  have HS2 : Hid (Hp w [.ob (w.heap.size) 27 (dvCells (.slice pa d.pages.length pc) d (.slice ua d.unread.length uc) (.slice fa d.faults.length fc))] w3) := (HS0.out).calls hb
  clear hb
  clear HS0
  clear HV
  by_cases h0 : usableR d page = 0
  case neg =>
    have HX : Hid (¬ usableR d page = 0) := h0
    have hq : (usableR d page != 0) = true := by rw [bne_iff_ne]; exact h0
    go_wp2_with fail
    exact bodyPost_ret (v := .tuple #[.string ⟨#[]⟩, .int .i64 (usableR d page)]) (by simp [results, Try.results32, go_sem]) rfl ⟨HUs.out _ _ (by unfold readR; rw [if_pos HX.out]), HS2.out.old⟩
  case pos =>
    obtain ⟨_, _, g0, g1⟩ := usable_ok h0
    have HX : Hid (usableR d page = 0) := h0
    have hq : (usableR d page != 0) = false := by rw [h0]; rfl
    obtain ⟨k, rfl⟩ := Int.eq_ofNat_of_zero_le g0
    have hkn : k < d.pages.length := by omega
    have b2 : w3.cell? ⟨w.heap.size, 2, none⟩ = some (.slice ua d.unread.length uc) := HS2.out.at 0 rfl 2 rfl
    have HKn := Lib.hid hkn
    go_wp2_with fail
    refine (HHas.out _ HS2.out.old).mono ?_
    rintro e w4 ⟨rfl, hb⟩
    have HS3 : Hid (Hp w [.ob (w.heap.size) 27 (dvCells (.slice pa d.pages.length pc) d (.slice ua d.unread.length uc) (.slice fa d.faults.length fc))] w4) := (HS2.out).calls hb
    clear hb
    clear HS2
    clear HHas
    cases hh : hasB d.unread (k : Int)
    case true =>
      have HH : Hid (hasB d.unread (k : Int) = true) := hh
      go_wp2_with fail
      exact bodyPost_ret (v := .tuple #[.string ⟨#[]⟩, .int .i64 11]) (by simp [results, Try.results32, go_sem]) rfl ⟨HUs.out _ _ (by unfold readR; rw [if_neg (by rw [HX.out]; simp), if_pos HH.out]), HS3.out.old⟩
    case false =>
      have HH : Hid (¬ hasB d.unread (k : Int) = true) := by show ¬ _; rw [hh]; decide
      obtain ⟨g, off, rfl, hr⟩ := p2.out (by omega)
      obtain ⟨y, hy⟩ : ∃ y, d.pages[k] = y := ⟨_, rfl⟩
      have HYd : Hid (d.pages.getD (Int.toNat (k : Int)) ⟨#[]⟩ = y) := by show _ = _; rw [Int.toNat_natCast, List.getD_eq_getElem?_getD, List.getElem?_eq_getElem hkn]; exact hy
      have hcell : w4.cell? ⟨g, off + k, none⟩ = some (.string y) := by rw [← hy]; exact hr _ HS3.out.old k _ (strRow_at d.pages k hkn)
      have b0 : w4.cell? ⟨w.heap.size, 0, none⟩ = some (.slice (some ⟨g, off, none⟩) d.pages.length pc) := HS3.out.at 0 rfl 0 rfl
      clear hr hy
      go_wp2_with fail
      exact bodyPost_ret (v := .tuple #[.string y, .int .i64 0]) (by simp [results, Try.results32, go_sem]) rfl ⟨HUs.out _ _ (by unfold readR; rw [if_neg (by rw [HX.out]; simp), if_neg HH.out, HYd.out]), HS3.out.old⟩
end Go.Proofs.Ytlmbnofkmmehoaa
