/- the law EntrySizes: for every input the call returns true -/
import Derived.Test.YtgljhfofikjbdaaOm5
namespace Go.Proofs.Ytgljhfofikjbdaa
open Go.RowKit
set_option maxRecDepth 20000
set_option linter.unusedSimpArgs false
set_option linter.unusedVariables false

set_option maxHeartbeats 4000000 in
theorem sizes_any (x : Option Addr) (len cap : Nat) (zs : List Int) (w : World) (hr : IsRow .u8 w x len cap zs) : Calls Try.prog 6 #[.slice x len cap] w fun e w' => e = .returned (.bool true) ∧ Below w.heap.size w w' := by
  have HR := Lib.hid hr
  clear hr
  obtain ⟨fsHUE, huHUE⟩ := under_en
  have HUE := Lib.hid huHUE
  clear huHUE
  go_enter Try.func6, Try.ntmps6
  go_wp2_with fail
  refine (awake_en _).mono ?_
  rintro e w1 ⟨rfl, hb⟩
  have HS0 : Hid (Hp w [] w1) := (Hp.start w).calls hb
  clear hb
  go_wp2_with fail
  refine (new_hp 100 (by omega) HS0.out HR.out).mono ?_
  rintro e w2 ⟨rfl, hs⟩
  have HS1 : Hid (Hp w [.cd w1.heap.size] w2) := hs
  clear hs HS0 HR
  generalize w1.heap.size = C at *
  go_wp2_with fail
  refine (entry_any C _ ((HS1.out).codes 0 rfl)).mono ?_
  rintro e w3 ⟨y, rfl, Hy, hb, hc⟩
  have HS2 : Hid (Hp w [.cd C] w3) := (HS1.out).draws 0 rfl hb hc
  clear hb hc
  clear HS1
  go_upto_region 4 with (first | ((with_reducible refine wpList_alloc_ob 28 (enCells enNil) ?_ ?_); (exact alloc_en); simp only [Act.put, List.setIfInBounds_toArray, List.set_cons_zero, List.set_cons_succ]) | ((with_reducible refine wpList_store_ob 28 (.tmp 3) (w3.heap.size) (enCells y) (enCells enNil) 28 ?_ ?_ ?_ ?_ ?_ ?_ ?_); (exact rfl); (exact rfl); (exact ((HS2.out).put 28 (enCells enNil)).get 1 rfl); (exact info_en); (exact rfl); (exact (oneCell_en _)); skip))
  have HS3 : Hid (Hp w [.cd C, .ob (w3.heap.size) 28 (enCells y)] ((w3.alloc (.cells (enCells enNil).toArray 28)).setRow (w3.heap.size) (enCells y).toArray)) := ((HS2.out).put 28 (enCells enNil)).row 1 rfl (enCells y)
  clear HS2
  generalize ((w3.alloc (.cells (enCells enNil).toArray 28)).setRow (w3.heap.size) (enCells y).toArray) = w4 at *
  generalize w3.heap.size = B1 at *
  obtain ⟨S, hS⟩ : ∃ S, enS y = S := ⟨_, rfl⟩
  have hz := enS_size Hy.out.ok
  have hsm := ent_small Hy.out.ok
  have HE := Lib.hid (fun W => enc_at (encE_ok Hy.out.ok) Hy.out.good W)
  rw [hS] at hz HE
  clear hS
  go_wp2_with (first | ((with_reducible refine wpList_load_ob 28 (.tmp 3) B1 (enCells y) 28 HUE.out ?_ ?_ ?_ ?_ ?_); (exact rfl); (exact (HS3.out).get 1 rfl); (exact rfl); (exact info_en); simp only [Act.put, List.setIfInBounds_toArray, List.set_cons_zero, List.set_cons_succ]))
  refine (HE.out _).mono ?_
  rintro e w5 ⟨rfl, hb⟩
  have HS4 : Hid (Hp w [.cd C, .ob B1 28 (enCells y)] w5) := (HS3.out).calls hb
  clear hb
  clear HS3
  clear HE
  go_upto_region 5 with (fail)
  have c9 : w5.cell? ⟨B1, 9, none⟩ = some (.string y.ch.before.data) := (HS4.out).at 1 rfl 9 rfl
  have c11 : w5.cell? ⟨B1, 11, none⟩ = some (.string y.ch.after.data) := (HS4.out).at 1 rfl 11 rfl
  have c12 : w5.cell? ⟨B1, 12, none⟩ = some (.string y.blob) := (HS4.out).at 1 rfl 12 rfl
  obtain ⟨b, hbq⟩ : ∃ b, y.ch.before.data = b := ⟨_, rfl⟩
  obtain ⟨a, haq⟩ : ∃ b, y.ch.after.data = b := ⟨_, rfl⟩
  obtain ⟨d, hdq⟩ : ∃ b, y.blob = b := ⟨_, rfl⟩
  rw [hbq] at c9 hz hsm
  rw [haq] at c11 hz hsm
  rw [hdq] at c12 hz hsm
  clear hbq haq hdq
  have i1 : (b.size : Int) ≤ 12 := by omega
  have i2 : (a.size : Int) ≤ 12 := by omega
  have i3 : (d.size : Int) ≤ 8192 := by omega
  have hzb : ((S.size : Int) == 48 + (b.size : Int) + (a.size : Int) + (d.size : Int)) = true := by rw [beq_iff_eq]; omega
  clear hz hsm
  go_wp2_with fail
  go_ret
  exact ⟨rfl, (HS4.out).old⟩
end Go.Proofs.Ytgljhfofikjbdaa
