/- the choices of a law's walk, as a thing -/
import Derived.Test.YtbadfcnkpeohfaaHp
import Derived.Test.YtbadfcnkpeohfaaLwCom
namespace Go.Proofs.Ytbadfcnkpeohfaa
open Go.RowKit

theorem row_lo {w : World} {x : Option Addr} {len cap : Nat} {zs : List Int} (hr : IsRow .u8 w x len cap zs) (h0 : 0 < len) : ∀ b off, x = some ⟨b, off, none⟩ → b < w.heap.size := by
  intro b off hx
  rcases hr with ⟨_, h, _, _⟩ | ⟨y, hy, _, _, hz, hc, _⟩
  · omega
  · have := World.block_lt_of_cell? w _ (hc 0 (by omega))
    rw [hx] at hy
    cases hy
    simpa [Addr.add] using this
theorem new_hp (m : Nat) (hm : m ≤ 1000) {w0 w : World} {L : List Th} {x : Option Addr} {len cap : Nat} {zs : List Int} (h : Hp w0 L w) (hr : IsRow .u8 w0 x len cap zs) :
    Calls Try.prog 8 #[.slice x len cap, .int .i64 m] w fun e w' => e = .returned (.pointer (some ⟨w.heap.size, 0, none⟩)) ∧ Hp w0 (L ++ [.cd w.heap.size]) w' :=
  (new_at m hm x len cap zs w (row_below hr h.old)).mono fun _ _ ⟨h1, h2, h3, l, c, h4, h5⟩ => ⟨h1, h.begin h2 h3 ⟨x, l, c, h4, fun hl => row_lo hr (h5 hl)⟩⟩
end Go.Proofs.Ytbadfcnkpeohfaa
