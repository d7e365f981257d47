import Derived.Test.YtlndpbebenecgaaDoorMs1
import Derived.Deep.RegionHeld3
namespace Go.Proofs.YtlndpbebenecgaaDoor
open Go.RowKit

set_option maxRecDepth 100000 in
set_option maxHeartbeats 1000000 in
theorem superOK (N : Int) (hN : 8 ≤ N ∧ N ≤ 512) (b c : Nat) (w : World) (c0 : w.cell? ⟨b, 0, none⟩ = some (.int .i64 0)) (c1 : w.cell? ⟨b, 1, none⟩ = some (.int .i64 2)) :
    Calls Tryd.prog 57 #[.agg #[.int .i64 N, .int .i64 1, .int .i64 1, .int .i64 3, .slice (some ⟨b, 0, none⟩) 1 c]] w fun e w' => e = .returned (.bool true) ∧ Below w.heap.size w w' := by
  have hbl : b < w.heap.size := World.block_lt_of_cell? _ _ c0
  obtain ⟨W0, hW0⟩ : ∃ W0, W0 = w.alloc (.cells #[.int .i64 N, .int .i64 1, .int .i64 1, .int .i64 3, .slice (some ⟨b, 0, none⟩) 1 c] 51) := ⟨_, rfl⟩
  have hb0 : Below w.heap.size w W0 := by rw [hW0]; exact belowA _ _
  have hX0 : W0.heap[w.heap.size]? = some (.cells #[.int .i64 N, .int .i64 1, .int .i64 1, .int .i64 3, .slice (some ⟨b, 0, none⟩) 1 c] 51 (0, 0)) := by rw [hW0]; exact heap_alloc_new _ _
  have hs0 : w.heap.size < W0.heap.size := (Array.getElem?_eq_some_iff.1 hX0).1
  have hbl0 : b < W0.heap.size := by omega
  have d0 : W0.cell? ⟨b, 0, none⟩ = some (.int .i64 0) := (hb0.cell (p := ⟨b, 0, none⟩) hbl).trans c0
  have d1 : W0.cell? ⟨b, 1, none⟩ = some (.int .i64 2) := (hb0.cell (p := ⟨b, 1, none⟩) hbl).trans c1
  have HC : Hid (∀ W : World, Below W0.heap.size W0 W → (W.cell? ⟨w.heap.size, 0, none⟩ = some (.int .i64 N) ∧ W.cell? ⟨w.heap.size, 1, none⟩ = some (.int .i64 1) ∧ W.cell? ⟨w.heap.size, 2, none⟩ = some (.int .i64 1) ∧ W.cell? ⟨w.heap.size, 3, none⟩ = some (.int .i64 3) ∧ W.cell? ⟨w.heap.size, 4, none⟩ = some (.slice (some ⟨b, 0, none⟩) 1 c)) ∧ W.cell? ⟨b, 0, none⟩ = some (.int .i64 0) ∧ W.cell? ⟨b, 1, none⟩ = some (.int .i64 2)) := fun W h => by
    have e := (h.block _ hs0).trans hX0
    exact ⟨by simp [World.cell?, e], (h.cell (p := ⟨b, 0, none⟩) hbl0).trans d0, (h.cell (p := ⟨b, 1, none⟩) hbl0).trans d1⟩
  have HW0 : Hid (W0 = w.alloc (.cells #[.int .i64 N, .int .i64 1, .int .i64 1, .int .i64 3, .slice (some ⟨b, 0, none⟩) 1 c] 51)) := hW0
  have h3N : ¬ N ≤ 3 := by omega
  have h2N : ¬ N ≤ 2 := by omega
  have hd2 : decide (N ≤ 2) = false := decide_eq_false h2N
  have hd3 : decide (N ≤ 3) = false := decide_eq_false h3N
  have h00 : decide ((0 : Int) < 0) = false := by decide
  obtain ⟨⟨x0, x1, x2, x3, x4⟩, _, _⟩ := HC.out W0 (Below.refl _ _)
  clear hW0 hX0 d0 d1
  go_enter Tryd.func57, Tryd.ntmps57
  go_upto_region 1 with fail
  rw [← HW0.out]
  go_wp2_with fail
  refine (l1BlocksOK_any _ _).mono ?_
  rintro e w1 ⟨rfl, rfl⟩
  rw [inB_true hN]
  go_wp2_with fail
  clear x0 x1 x2 x3 x4
  go_loopw [3] (fun i wr => (i = .int .i64 0 ∨ i = .int .i64 1) ∧ Below W0.heap.size W0 wr) (fun i _ => 1 - (intOf i).toNat)
  case atStart => exact ⟨.inl rfl, Below.refl _ _⟩
  case round =>
    obtain ⟨hi, hb⟩ := hrel
    obtain ⟨⟨x0, x1, x2, x3, x4⟩, y0, y1⟩ := HC.out wr hb
    rcases hi with rfl | rfl
    · skip
      have hb2 := fun o => hb.trans ((belowA wr o).mono hb.size)
      have hsr : w.heap.size < wr.heap.size := World.block_lt_of_cell? _ _ x0
      have hbr : b < wr.heap.size := World.block_lt_of_cell? _ _ y0
      obtain ⟨W5, HW5⟩ : ∃ W5, Hid (W5 = wr.alloc (.cells #[.int .i64 0, .int .i64 2] 107)) := ⟨_, rfl⟩
      have hB5 : Below W0.heap.size W0 W5 := by rw [HW5.out]; exact hb2 _
      have r0 : W5.cell? ⟨wr.heap.size, 0, none⟩ = some (.int .i64 0) := by rw [HW5.out]; exact World.cell?_alloc_at _ _ _ _ rfl
      have r1 : W5.cell? ⟨wr.heap.size, 1, none⟩ = some (.int .i64 2) := by rw [HW5.out]; exact World.cell?_alloc_at _ _ _ _ rfl
      go_wp2_with fail
      rw [← HW5.out]
      clear x0 x1 x2 x3 x4 y0 y1 hb2 hsr hbr
      obtain ⟨⟨x0, x1, x2, x3, x4⟩, _, _⟩ := HC.out W5 hB5
      clear x1 x3 x4
      go_quiet (fail)
      go_wp2
      go_roundw
      case rel => exact ⟨.inr (by go_num), below_drewN hB5 _⟩
      case measure => simp [intOf]
    · go_wp2
      go_ret
      exact ⟨rfl, hb0.trans (hb.mono (Nat.le_of_lt hs0))⟩

end Go.Proofs.YtlndpbebenecgaaDoor
