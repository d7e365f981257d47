import Derived.Test.YtempdkoflofglaaGreatDoorPX2
namespace Go.Proofs.YtempdkoflofglaaGreatDoor
open Go.RowKit

set_option maxRecDepth 100000 in
set_option maxHeartbeats 4000000 in
theorem eqCommand_same (c : Cmd) (w : World) :
    Calls Tryz.prog 6 #[.agg c.cells, .agg c.cells] w fun e w' => e = .returned (.bool true) ∧ Below w.heap.size w w' := by
  obtain ⟨op, tr, pa, pb, of, le, da⟩ := c
  simp only [Cmd.cells]
  have hb : ∀ o1 o2, Below w.heap.size w ((w.alloc o1).alloc o2) := fun o1 o2 => (belowA w o1).trans ((belowA (w.alloc o1) o2).mono (belowA w o1).size)
  go_enter Tryz.func6, Tryz.ntmps6
  go_wp2_with fail
  go_ret
  exact ⟨rfl, hb _ _⟩

set_option maxRecDepth 100000 in
set_option maxHeartbeats 4000000 in
theorem parseLine_all (s : ByteArray) (w : World) :
    Calls Tryz.prog 3 #[.string s] w fun e w' => e = .returned (.bool true) ∧ Below w.heap.size w w' := by
  by_cases hs : 1048576 < s.size
  · go_enter Tryz.func3, Tryz.ntmps3
    go_wp2_with fail
    go_ret
    exact ⟨rfl, Below.refl _ _⟩
  · have hs' : s.size ≤ 1048576 := by omega
    have HS : Hid (∀ w, Calls Tryz.prog 4 #[.string s] w fun e w' => e = .returned (.tuple #[.agg (pS s).2.cells, .int .i64 (pS s).1]) ∧ Below w.heap.size w w') := fun w => specParse_any s w hs'
    have HI : Hid (∀ w, Calls Tryz.prog 5 #[.string s] w fun e w' => e = .returned (.tuple #[.agg (pS s).2.cells, .int .i64 (pS s).1]) ∧ Below w.heap.size w w') := fun w => implParse_any s w hs'
    generalize pS s = p at *
    obtain ⟨cd, c⟩ := p
    have HE : Hid (∀ w, Calls Tryz.prog 6 #[.agg c.cells, .agg c.cells] w fun e w' => e = .returned (.bool true) ∧ Below w.heap.size w w') := fun w => eqCommand_same c w
    have hne : (cd != cd) = false := by simp
    obtain ⟨op, tr, pa, pb, of, le, da⟩ := c
    simp only [Cmd.cells] at HS HI HE
    go_enter Tryz.func3, Tryz.ntmps3
    go_upto_region 4 with (go_at_call 4; refine (HS.out w).mono ?_; rintro e w1 ⟨rfl, hb1⟩)
    obtain ⟨W1, hW1⟩ : ∃ W1, W1 = w1.alloc (.cells (Cmd.mk op tr pa pb of le da).cells 23) := ⟨_, rfl⟩
    have hC1 : CBox W1 w1.heap.size ⟨op, tr, pa, pb, of, le, da⟩ := by rw [hW1]; exact CBox.made _ _ _ rfl
    have hA1 : Below w1.heap.size w1 W1 := by rw [hW1]; exact belowA _ _
    have HW1 : Hid (W1 = w1.alloc (.cells #[.int .i64 op, .int .i64 tr, .string pa, .string pb, .int .i64 of, .int .i64 le, .string da] 23)) := hW1
    clear hW1
    rw [← HW1.out]
    go_upto_region 5 with (go_at_call 5; refine (HI.out W1).mono ?_; rintro e w2 ⟨rfl, hb2⟩)
    obtain ⟨W2, hW2⟩ : ∃ W2, W2 = w2.alloc (.cells (Cmd.mk op tr pa pb of le da).cells 23) := ⟨_, rfl⟩
    have hC2 : CBox W2 w2.heap.size ⟨op, tr, pa, pb, of, le, da⟩ := by rw [hW2]; exact CBox.made _ _ _ rfl
    have hA2 : Below w2.heap.size w2 W2 := by rw [hW2]; exact belowA _ _
    have HW2 : Hid (W2 = w2.alloc (.cells #[.int .i64 op, .int .i64 tr, .string pa, .string pb, .int .i64 of, .int .i64 le, .string da] 23)) := hW2
    clear hW2
    rw [← HW2.out]
    have hC1' := (hC1.below hb2).below hA2
    have hB1 := hb1.trans (hA1.mono hb1.size)
    have hB2 := hB1.trans (hb2.mono hB1.size)
    have HB : Hid (Below w.heap.size w W2) := hB2.trans (hA2.mono hB2.size)
    have c0 : W2.cell? ⟨w2.heap.size, 0, none⟩ = some (.int .i64 op) := hC2.cell 0
    have c1 : W2.cell? ⟨w2.heap.size, 1, none⟩ = some (.int .i64 tr) := hC2.cell 1
    have c2 : W2.cell? ⟨w2.heap.size, 2, none⟩ = some (.string pa) := hC2.cell 2
    have c3 : W2.cell? ⟨w2.heap.size, 3, none⟩ = some (.string pb) := hC2.cell 3
    have c4 : W2.cell? ⟨w2.heap.size, 4, none⟩ = some (.int .i64 of) := hC2.cell 4
    have c5 : W2.cell? ⟨w2.heap.size, 5, none⟩ = some (.int .i64 le) := hC2.cell 5
    have c6 : W2.cell? ⟨w2.heap.size, 6, none⟩ = some (.string da) := hC2.cell 6
    have x0 : W2.cell? ⟨w1.heap.size, 0, none⟩ = some (.int .i64 op) := hC1'.cell 0
    have x1 : W2.cell? ⟨w1.heap.size, 1, none⟩ = some (.int .i64 tr) := hC1'.cell 1
    have x2 : W2.cell? ⟨w1.heap.size, 2, none⟩ = some (.string pa) := hC1'.cell 2
    have x3 : W2.cell? ⟨w1.heap.size, 3, none⟩ = some (.string pb) := hC1'.cell 3
    have x4 : W2.cell? ⟨w1.heap.size, 4, none⟩ = some (.int .i64 of) := hC1'.cell 4
    have x5 : W2.cell? ⟨w1.heap.size, 5, none⟩ = some (.int .i64 le) := hC1'.cell 5
    have x6 : W2.cell? ⟨w1.heap.size, 6, none⟩ = some (.string da) := hC1'.cell 6
    clear hC1 hC2 hC1' hA1 hA2 hb1 hb2 hB1 hB2
    go_wp2_with (go_at_call 6; refine (HE.out _).mono ?_)
    rintro e w3 ⟨rfl, hb3⟩
    go_wp2_with fail
    go_ret
    exact ⟨rfl, HB.out.trans (hb3.mono HB.out.size)⟩

end Go.Proofs.YtempdkoflofglaaGreatDoor
