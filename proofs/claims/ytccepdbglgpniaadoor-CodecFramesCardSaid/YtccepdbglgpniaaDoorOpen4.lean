/- an array of four bytes that came in by value, opened -/
import Derived.Test.YtccepdbglgpniaaDoorRows
import Derived.WalkKit
import Derived.ProofKit
import Derived.OpenShut
namespace Go.Proofs.YtccepdbglgpniaaDoor
open Go.ChangeShapes Go.WideShapes Go.ChangeAt Go.RowKit

theorem cells44 : Tryd.prog.cellsOf 44 = 4 := by kernel_rfl
theorem cells5 : Tryd.prog.cellsOf 5 = 1 := by kernel_rfl
theorem byte_of_wf {n : Int} (h : (Lit.int .u8 n).wf = true) : ∃ b : UInt8, n = (b.toNat : Int) := by
  have := bounds_u8 h
  refine ⟨UInt8.ofNat n.toNat, ?_⟩
  rw [UInt8.toNat_ofNat']
  omega
theorem list4 {α : Type} : ∀ (l : List α), l.length = 4 → ∃ a b c d, l = [a, b, c, d]
  | [a, b, c, d], _ => ⟨a, b, c, d, rfl⟩
theorem open_four {H : Type} {enc : TypeId × Value → H} {W : World} {r : Reach} {b0 base : Nat} {sp : Nat → Bool} {held : Bool} {v : Value} {d : DataW H} {ps : List MemPlace}
    (hval : Value.okWide Tryd.prog W r b0 44 v) (hd : DataW.Trod enc Tryd.prog W base sp held 44 v d ps) :
    ∃ x0 x1 x2 x3 : UInt8, v = .agg #[.int .u8 (x0.toNat : Int), .int .u8 (x1.toNat : Int), .int .u8 (x2.toNat : Int), .int .u8 (x3.toNat : Int)] := by
  obtain ⟨cs, rfl, hsz⟩ : ∃ cs, v = .agg cs ∧ cs.size = Tryd.prog.cellsOf 44 := by
    have : ∃ cs, v = .agg cs ∧ cs.size = Tryd.prog.cellsOf 44 ∧ Row.okWide Tryd.prog W r b0 44 cs := by
      simpa [Value.okWide, Tryd.underlying44] using hval
    obtain ⟨cs, h1, h2, _⟩ := this
    exact ⟨cs, h1, h2⟩
  rw [cells44] at hsz
  obtain ⟨l⟩ := cs
  obtain ⟨c0, c1, c2, c3, rfl⟩ := list4 l hsz
  obtain ⟨fuel, hf⟩ := hd
  obtain ⟨y0, y1, y2, y3, m, hx, hy0, hy1, hy2, hy3⟩ := trod_array4 Tryd.underlying44 cells5 hf
  obtain ⟨x0, e0, _, w0⟩ := DataW.trod_int Tryd.underlying5 hy0
  obtain ⟨x1, e1, _, w1⟩ := DataW.trod_int Tryd.underlying5 hy1
  obtain ⟨x2, e2, _, w2⟩ := DataW.trod_int Tryd.underlying5 hy2
  obtain ⟨x3, e3, _, w3⟩ := DataW.trod_int Tryd.underlying5 hy3
  simp at e0 e1 e2 e3
  obtain ⟨z0, rfl⟩ := byte_of_wf w0
  obtain ⟨z1, rfl⟩ := byte_of_wf w1
  obtain ⟨z2, rfl⟩ := byte_of_wf w2
  obtain ⟨z3, rfl⟩ := byte_of_wf w3
  exact ⟨z0, z1, z2, z3, by rw [e0, e1, e2, e3]⟩
end Go.Proofs.YtccepdbglgpniaaDoor
