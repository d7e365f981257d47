import Derived.Test.YtlndpbebenecgaaDoorMk10
import Derived.Test.YtlndpbebenecgaaDoorCd4
namespace Go.Proofs.YtlndpbebenecgaaDoor
open Go.RowKit

/-- an empty leaf's first bytes -/
def lf4 : List Int := [1, 0, 0, 0]
theorem lf4_length : lf4.length = 4 := rfl
theorem lf4_byt : Byt lf4 := fun i => by
  match i with
  | 0 => simp [lf4]
  | 1 => simp [lf4]
  | 2 => simp [lf4]
  | 3 => simp [lf4]
  | i + 4 => simp [lf4]
theorem leaf_seal : slL (headL 1 0) = sealL lf4 := slL_seal [1, 0, 0, 0] (by decide)

set_option maxRecDepth 100000 in
set_option maxHeartbeats 2000000 in
theorem nodeOK0 (w : World) : Calls Tryd.prog 62 #[.agg #[.int .i64 1, .slice none 0 0]] w fun e w' => e = .returned (.bool true) ∧ Below w.heap.size w w' := by
  have hb0 := belowA w (.cells #[.int .i64 1, .slice none 0 0] 63)
  obtain ⟨W0, hW0⟩ : ∃ W0, W0 = w.alloc (.cells #[.int .i64 1, .slice none 0 0] 63) := ⟨_, rfl⟩
  go_enter Tryd.func62, Tryd.ntmps62
  go_wp2
  rw [← hW0] at hb0 ⊢
  clear hW0
  go_loopw [4] (fun i wr => i = .int .i64 0 ∧ W0 = wr) (fun _ _ => 0)
  case atStart => exact ⟨rfl, rfl⟩
  case round =>
    obtain ⟨rfl, rfl⟩ := hrel
    go_wp2
    go_ret
    exact ⟨rfl, hb0⟩

theorem Row8.four (base : Nat) (w : World) (hb : base ≤ w.heap.size) (a b c d : Int) : Row8 base (w.alloc (.cells #[.int .u8 a, .int .u8 b, .int .u8 c, .int .u8 d] 5)) (.slice (some ⟨w.heap.size, 0, none⟩) 4 4) [a, b, c, d] :=
  World.ownsRow_lit (e := 5) (size := 1) w #[.int .u8 a, .int .u8 b, .int .u8 c, .int .u8 d] 4 hb (by decide) rfl

set_option maxRecDepth 100000 in
set_option maxHeartbeats 2000000 in
theorem specEncLeaf (w : World) : Calls Tryd.prog 29 #[.agg #[.int .i64 1, .slice none 0 0]] w fun e w' => ∃ u, e = .returned (.tuple #[u, .int .i64 0]) ∧ Row8 w.heap.size w' u (slL (headL 1 0)) ∧ Below w.heap.size w w' := by
  rw [leaf_seal]
  have hb0 := belowA w (.cells #[.int .i64 1, .slice none 0 0] 63)
  go_enter Tryd.func29, Tryd.ntmps29
  go_wp2_with fail
  refine (nodeOK0 _).mono ?_
  rintro e w1 ⟨rfl, hb1⟩
  have hB1 := hb0.trans (hb1.mono hb0.size)
  have c0 : w1.cell? ⟨w.heap.size, 0, none⟩ = some (.int .i64 1) := (hb1.cell (p := ⟨w.heap.size, 0, none⟩) (by simp)).trans (World.cell?_alloc_at _ _ _ _ rfl)
  have c1 : w1.cell? ⟨w.heap.size, 1, none⟩ = some (.slice none 0 0) := (hb1.cell (p := ⟨w.heap.size, 1, none⟩) (by simp)).trans (World.cell?_alloc_at _ _ _ _ rfl)
  have hlt : w.heap.size < w1.heap.size := World.block_lt_of_cell? _ _ c0
  obtain ⟨W2, HW2⟩ : ∃ W2, Hid (W2 = w1.alloc (.cells #[.int .u8 1, .int .u8 0, .int .u8 0, .int .u8 0] 5)) := ⟨_, rfl⟩
  have hR2 : Row8 w.heap.size W2 (.slice (some ⟨w1.heap.size, 0, none⟩) 4 4) lf4 := by rw [HW2.out]; exact Row8.four _ _ (Nat.le_of_lt hlt) 1 0 0 0
  have hb2 : Below w1.heap.size w1 W2 := by rw [HW2.out]; exact belowA _ _
  have hB2 := hB1.trans (hb2.mono hB1.size)
  have d1 : W2.cell? ⟨w.heap.size, 1, none⟩ = some (.slice none 0 0) := (hb2.cell (p := ⟨w.heap.size, 1, none⟩) hlt).trans c1
  have HSC : Hid (Calls Tryd.prog 49 #[.slice (some ⟨w1.heap.size, 0, none⟩) 4 4] W2 fun e w' => ∃ u', e = .returned u' ∧ Row8 w.heap.size w' u' (sealL lf4) ∧ Below w.heap.size W2 w') := l2Seal_any _ lf4 w.heap.size W2 hR2 hB2.size (by rw [lf4_length]; omega) lf4_byt
  clear hb0 hb1 hR2
  go_wp2_with fail
  rw [← HW2.out]
  clear c0 c1
  go_loopw [4, 5] (fun u i wr => u = .slice (some ⟨w1.heap.size, 0, none⟩) 4 4 ∧ i = .int .i64 0 ∧ W2 = wr) (fun _ _ _ => 0)
  case atStart => exact ⟨rfl, rfl, rfl⟩
  case round =>
    obtain ⟨rfl, rfl, rfl⟩ := hrel
    go_wp2_with fail
    refine HSC.out.mono ?_
    rintro e w3 ⟨u, rfl, hR3, hb3⟩
    have hB3 := hB2.trans hb3
    clear d1
    go_wp2
    exact bodyPost_ret (v := .tuple #[u, .int .i64 0]) (by simp [results, Tryd.results29, go_sem]) rfl ⟨u, rfl, hR3, hB3⟩

end Go.Proofs.YtlndpbebenecgaaDoor
