import Derived.Test.YtempdkoflofglaaGreatDoorPR
import Derived.Deep.RegionHeld3
namespace Go.Proofs.YtempdkoflofglaaGreatDoor
open Go.RowKit
set_option linter.unusedVariables false

theorem CBox.made2 (w : World) (o : Obj) (c : Cmd) : CBox ((w.alloc o).alloc (.cells c.cells 23)) (w.heap.size + 1) c := CBox.made (w.alloc o) c _ (by simp)

set_option maxRecDepth 100000 in
set_option maxHeartbeats 8000000 in
theorem implParse_any (s : ByteArray) (w : World) (hs : s.size ≤ 1048576) :
    Calls Tryz.prog 5 #[.string s] w fun e w' => e = .returned (.tuple #[.agg (pS s).2.cells, .int .i64 (pS s).1]) ∧ Below w.heap.size w w' := by
  obtain ⟨W0, hW0⟩ : ∃ W0, W0 = w.alloc (.cells (cmd0 0).cells 23) := ⟨_, rfl⟩
  have hR0 : CBox W0 w.heap.size (cmd0 0) := by rw [hW0]; exact CBox.made _ _ _ rfl
  have hB0 : Below w.heap.size w W0 := by rw [hW0]; exact belowA _ _
  have hs0 : w.heap.size + 1 ≤ W0.heap.size := by rw [hW0]; simp
  have HW0 : Hid (W0 = w.alloc (.cells #[.int .i64 0, .int .i64 0, .string { data := #[] }, .string { data := #[] }, .int .i64 0, .int .i64 0, .string { data := #[] }] 23)) := hW0
  clear hW0
  have hend : ∀ (W : World), Below w.heap.size w W → ∀ z0 z1 z2 z3 z4 z5 z6 : Value, Below w.heap.size w (((((((W.setCell ⟨w.heap.size, 0, none⟩ z0).setCell ⟨w.heap.size, 1, none⟩ z1).setCell ⟨w.heap.size, 2, none⟩ z2).setCell ⟨w.heap.size, 3, none⟩ z3).setCell ⟨w.heap.size, 4, none⟩ z4).setCell ⟨w.heap.size, 5, none⟩ z5).setCell ⟨w.heap.size, 6, none⟩ z6) := fun W h z0 z1 z2 z3 z4 z5 z6 =>
    have p0 : w.heap.size ≤ w.heap.size := Nat.le_refl _
    ((((((h.setCell (p := ⟨w.heap.size, 0, none⟩) p0 z0).setCell (p := ⟨w.heap.size, 1, none⟩) p0 z1).setCell (p := ⟨w.heap.size, 2, none⟩) p0 z2).setCell (p := ⟨w.heap.size, 3, none⟩) p0 z3).setCell (p := ⟨w.heap.size, 4, none⟩) p0 z4).setCell (p := ⟨w.heap.size, 5, none⟩) p0 z5).setCell (p := ⟨w.heap.size, 6, none⟩) p0 z6
  have hrl := fun mb w hV => readLine_any mb s w hV hs
  generalize pS s = p at hrl ⊢
  obtain ⟨cd, op, tr, pa, pb, of, le, da⟩ := p
  simp only [Cmd.cells] at hrl ⊢
  go_enter Tryz.func5, Tryz.ntmps5
  go_upto_region 1 with fail
  rw [← HW0.out]
  go_upto_region 2 with (first | (go_at_call 12; refine (verbs_any _ _).mono ?_; rintro e w2 ⟨b, rfl, hV, hB2⟩) | (go_at_call 11; refine (hrl _ _ (by assumption)).mono ?_; rintro e w3 ⟨v, ⟨v0, va, vn, vc, vf, rfl, rfl | ⟨i, j, k, rfl⟩⟩, rfl, hB3⟩))
  · have hB3' : Below W0.heap.size W0 w3 := ((belowA W0 _).trans (hB2.mono (belowA W0 _).size)).trans (hB3.mono (Nat.le_trans (belowA W0 _).size hB2.size))
    have hR3 := hR0.below hB3'
    have hB3w : Below w.heap.size w w3 := hB0.trans (hB3'.mono hB0.size)
    have hlt := hR3.lt
    obtain ⟨W5, hW5⟩ : ∃ W5, W5 = (w3.alloc (.cells #[.int .i64 v0, .slice va vn vc, .nilFunc] 37)).alloc (.cells #[.int .i64 op, .int .i64 tr, .string pa, .string pb, .int .i64 of, .int .i64 le, .string da] 23) := ⟨_, rfl⟩
    have hB5 : Below w3.heap.size w3 W5 := by rw [hW5]; exact ((Below.refl _ _).alloc (Nat.le_refl _) _).alloc (by simp) _
    have hC5 : CBox W5 (w3.heap.size + 1) ⟨op, tr, pa, pb, of, le, da⟩ := by rw [hW5]; exact CBox.made2 w3 _ ⟨op, tr, pa, pb, of, le, da⟩
    have hR5 := hR3.below hB5
    rw [← hW5]
    clear hW5
    have c0 : W5.cell? ⟨w3.heap.size + 1, 0, none⟩ = some (.int .i64 op) := hC5.cell 0
    have c1 : W5.cell? ⟨w3.heap.size + 1, 1, none⟩ = some (.int .i64 tr) := hC5.cell 1
    have c2 : W5.cell? ⟨w3.heap.size + 1, 2, none⟩ = some (.string pa) := hC5.cell 2
    have c3 : W5.cell? ⟨w3.heap.size + 1, 3, none⟩ = some (.string pb) := hC5.cell 3
    have c4 : W5.cell? ⟨w3.heap.size + 1, 4, none⟩ = some (.int .i64 of) := hC5.cell 4
    have c5 : W5.cell? ⟨w3.heap.size + 1, 5, none⟩ = some (.int .i64 le) := hC5.cell 5
    have c6 : W5.cell? ⟨w3.heap.size + 1, 6, none⟩ = some (.string da) := hC5.cell 6
    have x0 : W5.cell? ⟨w.heap.size, 0, none⟩ = some (.int .i64 0) := hR5.cell 0
    have x1 : W5.cell? ⟨w.heap.size, 1, none⟩ = some (.int .i64 0) := hR5.cell 1
    have x2 : W5.cell? ⟨w.heap.size, 2, none⟩ = some (.string { data := #[] }) := hR5.cell 2
    have x3 : W5.cell? ⟨w.heap.size, 3, none⟩ = some (.string { data := #[] }) := hR5.cell 3
    have x4 : W5.cell? ⟨w.heap.size, 4, none⟩ = some (.int .i64 0) := hR5.cell 4
    have x5 : W5.cell? ⟨w.heap.size, 5, none⟩ = some (.int .i64 0) := hR5.cell 5
    have x6 : W5.cell? ⟨w.heap.size, 6, none⟩ = some (.string { data := #[] }) := hR5.cell 6
    have q1 := hR5.free
    have HB5 : Hid (Below w.heap.size w W5) := hB3w.trans (hB5.mono hB3w.size)
    clear hR5 hC5 hR3 hB5 hB3' hV hrl hB2 hB3 hR0
    go_wp2_with fail
    exact bodyPost_ret (v := .tuple #[.agg #[.int .i64 op, .int .i64 tr, .string pa, .string pb, .int .i64 of, .int .i64 le, .string da], .int .i64 cd]) (by simp [results, Tryz.results5, go_sem, x0, x1, x2, x3, x4, x5, x6]) rfl ⟨rfl, hend _ HB5.out _ _ _ _ _ _ _⟩
  · have hB3' : Below W0.heap.size W0 w3 := ((belowA W0 _).trans (hB2.mono (belowA W0 _).size)).trans (hB3.mono (Nat.le_trans (belowA W0 _).size hB2.size))
    have hR3 := hR0.below hB3'
    have hB3w : Below w.heap.size w w3 := hB0.trans (hB3'.mono hB0.size)
    have hlt := hR3.lt
    obtain ⟨W5, hW5⟩ : ∃ W5, W5 = (w3.alloc (.cells #[.int .i64 v0, .slice va vn vc, .func i j k] 37)).alloc (.cells #[.int .i64 op, .int .i64 tr, .string pa, .string pb, .int .i64 of, .int .i64 le, .string da] 23) := ⟨_, rfl⟩
    have hB5 : Below w3.heap.size w3 W5 := by rw [hW5]; exact ((Below.refl _ _).alloc (Nat.le_refl _) _).alloc (by simp) _
    have hC5 : CBox W5 (w3.heap.size + 1) ⟨op, tr, pa, pb, of, le, da⟩ := by rw [hW5]; exact CBox.made2 w3 _ ⟨op, tr, pa, pb, of, le, da⟩
    have hR5 := hR3.below hB5
    rw [← hW5]
    clear hW5
    have c0 : W5.cell? ⟨w3.heap.size + 1, 0, none⟩ = some (.int .i64 op) := hC5.cell 0
    have c1 : W5.cell? ⟨w3.heap.size + 1, 1, none⟩ = some (.int .i64 tr) := hC5.cell 1
    have c2 : W5.cell? ⟨w3.heap.size + 1, 2, none⟩ = some (.string pa) := hC5.cell 2
    have c3 : W5.cell? ⟨w3.heap.size + 1, 3, none⟩ = some (.string pb) := hC5.cell 3
    have c4 : W5.cell? ⟨w3.heap.size + 1, 4, none⟩ = some (.int .i64 of) := hC5.cell 4
    have c5 : W5.cell? ⟨w3.heap.size + 1, 5, none⟩ = some (.int .i64 le) := hC5.cell 5
    have c6 : W5.cell? ⟨w3.heap.size + 1, 6, none⟩ = some (.string da) := hC5.cell 6
    have x0 : W5.cell? ⟨w.heap.size, 0, none⟩ = some (.int .i64 0) := hR5.cell 0
    have x1 : W5.cell? ⟨w.heap.size, 1, none⟩ = some (.int .i64 0) := hR5.cell 1
    have x2 : W5.cell? ⟨w.heap.size, 2, none⟩ = some (.string { data := #[] }) := hR5.cell 2
    have x3 : W5.cell? ⟨w.heap.size, 3, none⟩ = some (.string { data := #[] }) := hR5.cell 3
    have x4 : W5.cell? ⟨w.heap.size, 4, none⟩ = some (.int .i64 0) := hR5.cell 4
    have x5 : W5.cell? ⟨w.heap.size, 5, none⟩ = some (.int .i64 0) := hR5.cell 5
    have x6 : W5.cell? ⟨w.heap.size, 6, none⟩ = some (.string { data := #[] }) := hR5.cell 6
    have q1 := hR5.free
    have HB5 : Hid (Below w.heap.size w W5) := hB3w.trans (hB5.mono hB3w.size)
    clear hR5 hC5 hR3 hB5 hB3' hV hrl hB2 hB3 hR0
    go_wp2_with fail
    exact bodyPost_ret (v := .tuple #[.agg #[.int .i64 op, .int .i64 tr, .string pa, .string pb, .int .i64 of, .int .i64 le, .string da], .int .i64 cd]) (by simp [results, Tryz.results5, go_sem, x0, x1, x2, x3, x4, x5, x6]) rfl ⟨rfl, hend _ HB5.out _ _ _ _ _ _ _⟩

end Go.Proofs.YtempdkoflofglaaGreatDoor
