import Derived.Test.YtpjdhfbeofdplaaGreatDoorMk10
import Derived.Test.YtpjdhfbeofdplaaGreatDoorCd4
import Derived.Deep.RegionHeld3
namespace Go.Proofs.YtpjdhfbeofdplaaGreatDoor
open Go.RowKit

/-- an empty leaf's first bytes -/
def lf4 : List Int := [1, 0, 0, 0]
theorem lf4_length : lf4.length = 4 := rfl
theorem lf4_byt : Byt lf4 := fun i => by
  match i with
  | 0 => simp [lf4]
  | 1 => simp [lf4]
  | 2 => simp [lf4]
  | 3 => simp [lf4]
  | i + 4 => simp [lf4]
theorem leaf_seal : slL (headL 1 0) = sealL lf4 := slL_seal [1, 0, 0, 0] (by decide)

set_option maxRecDepth 100000 in
set_option maxHeartbeats 2000000 in
theorem nodeOK0 (w : World) : Calls Tryz.prog 46 #[.agg #[.int .i64 1, .slice none 0 0]] w fun e w' => e = .returned (.bool true) ∧ Below w.heap.size w w' := by
  have hb0 := belowA w (.cells #[.int .i64 1, .slice none 0 0] 54)
  obtain ⟨W0, hW0⟩ : ∃ W0, W0 = w.alloc (.cells #[.int .i64 1, .slice none 0 0] 54) := ⟨_, rfl⟩
  go_enter Tryz.func46, Tryz.ntmps46
  go_wp2
  rw [← hW0] at hb0 ⊢
  clear hW0
  go_loopw [4] (fun i wr => i = .int .i64 0 ∧ W0 = wr) (fun _ _ => 0)
  case atStart => exact ⟨rfl, rfl⟩
  case round =>
    obtain ⟨rfl, rfl⟩ := hrel
    go_wp2
    go_ret
    exact ⟨rfl, hb0⟩

theorem Row8.four (base : Nat) (w : World) (hb : base ≤ w.heap.size) (a b c d : Int) : Row8 base (w.alloc (.cells #[.int .u8 a, .int .u8 b, .int .u8 c, .int .u8 d] 5)) (.slice (some ⟨w.heap.size, 0, none⟩) 4 4) [a, b, c, d] :=
  World.ownsRow_lit (e := 5) (size := 1) w #[.int .u8 a, .int .u8 b, .int .u8 c, .int .u8 d] 4 hb (by decide) rfl

set_option maxRecDepth 100000 in
set_option maxHeartbeats 2000000 in
theorem specEncLeaf (w : World) : Calls Tryz.prog 34 #[.agg #[.int .i64 1, .slice none 0 0]] w fun e w' => ∃ u, e = .returned (.tuple #[u, .int .i64 0]) ∧ Row8 w.heap.size w' u (slL (headL 1 0)) ∧ Below w.heap.size w w' := by
  rw [leaf_seal]
  have hb0 := belowA w (.cells #[.int .i64 1, .slice none 0 0] 54)
  go_enter Tryz.func34, Tryz.ntmps34
  go_wp2_with fail
  refine (nodeOK0 _).mono ?_
  rintro e w1 ⟨rfl, hb1⟩
  have hB1 := hb0.trans (hb1.mono hb0.size)
  have c0 : w1.cell? ⟨w.heap.size, 0, none⟩ = some (.int .i64 1) := (hb1.cell (p := ⟨w.heap.size, 0, none⟩) (by simp)).trans (World.cell?_alloc_at _ _ _ _ rfl)
  have c1 : w1.cell? ⟨w.heap.size, 1, none⟩ = some (.slice none 0 0) := (hb1.cell (p := ⟨w.heap.size, 1, none⟩) (by simp)).trans (World.cell?_alloc_at _ _ _ _ rfl)
  have hlt : w.heap.size < w1.heap.size := World.block_lt_of_cell? _ _ c0
  obtain ⟨W2, HW2⟩ : ∃ W2, Hid (W2 = w1.alloc (.cells #[.int .u8 1, .int .u8 0, .int .u8 0, .int .u8 0] 5)) := ⟨_, rfl⟩
  have hR2 : Row8 w.heap.size W2 (.slice (some ⟨w1.heap.size, 0, none⟩) 4 4) lf4 := by rw [HW2.out]; exact Row8.four _ _ (Nat.le_of_lt hlt) 1 0 0 0
  have hb2 : Below w1.heap.size w1 W2 := by rw [HW2.out]; exact belowA _ _
  have hB2 := hB1.trans (hb2.mono hB1.size)
  have d1 : W2.cell? ⟨w.heap.size, 1, none⟩ = some (.slice none 0 0) := (hb2.cell (p := ⟨w.heap.size, 1, none⟩) hlt).trans c1
  have HSC : Hid (Calls Tryz.prog 48 #[.slice (some ⟨w1.heap.size, 0, none⟩) 4 4] W2 fun e w' => ∃ u', e = .returned u' ∧ Row8 w.heap.size w' u' (sealL lf4) ∧ Below w.heap.size W2 w') := l2Seal_any _ lf4 w.heap.size W2 hR2 hB2.size (by rw [lf4_length]; omega) lf4_byt
  clear hb0 hb1 hR2
  go_wp2_with fail
  rw [← HW2.out]
  clear c0 c1
  go_loopw [4, 5] (fun u i wr => u = .slice (some ⟨w1.heap.size, 0, none⟩) 4 4 ∧ i = .int .i64 0 ∧ W2 = wr) (fun _ _ _ => 0)
  case atStart => exact ⟨rfl, rfl, rfl⟩
  case round =>
    obtain ⟨rfl, rfl, rfl⟩ := hrel
    go_wp2_with fail
    refine HSC.out.mono ?_
    rintro e w3 ⟨u, rfl, hR3, hb3⟩
    have hB3 := hB2.trans hb3
    clear d1
    go_wp2
    exact bodyPost_ret (v := .tuple #[u, .int .i64 0]) (by simp [results, Tryz.results34, go_sem]) rfl ⟨u, rfl, hR3, hB3⟩

end Go.Proofs.YtpjdhfbeofdplaaGreatDoor

namespace Go.Proofs.YtpjdhfbeofdplaaGreatDoor
open Go.RowKit

set_option maxRecDepth 100000 in
set_option maxHeartbeats 1000000 in
theorem superOK (N : Int) (hN : 8 ≤ N ∧ N ≤ 512) (b c : Nat) (w : World) (c0 : w.cell? ⟨b, 0, none⟩ = some (.int .i64 0)) (c1 : w.cell? ⟨b, 1, none⟩ = some (.int .i64 2)) :
    Calls Tryz.prog 50 #[.agg #[.int .i64 N, .int .i64 1, .int .i64 1, .int .i64 3, .slice (some ⟨b, 0, none⟩) 1 c]] w fun e w' => e = .returned (.bool true) ∧ Below w.heap.size w w' := by
  have hbl : b < w.heap.size := World.block_lt_of_cell? _ _ c0
  obtain ⟨W0, hW0⟩ : ∃ W0, W0 = w.alloc (.cells #[.int .i64 N, .int .i64 1, .int .i64 1, .int .i64 3, .slice (some ⟨b, 0, none⟩) 1 c] 87) := ⟨_, rfl⟩
  have hb0 : Below w.heap.size w W0 := by rw [hW0]; exact belowA _ _
  have hX0 : W0.heap[w.heap.size]? = some (.cells #[.int .i64 N, .int .i64 1, .int .i64 1, .int .i64 3, .slice (some ⟨b, 0, none⟩) 1 c] 87 (0, 0)) := by rw [hW0]; exact heap_alloc_new _ _
  have hs0 : w.heap.size < W0.heap.size := (Array.getElem?_eq_some_iff.1 hX0).1
  have hbl0 : b < W0.heap.size := by omega
  have d0 : W0.cell? ⟨b, 0, none⟩ = some (.int .i64 0) := (hb0.cell (p := ⟨b, 0, none⟩) hbl).trans c0
  have d1 : W0.cell? ⟨b, 1, none⟩ = some (.int .i64 2) := (hb0.cell (p := ⟨b, 1, none⟩) hbl).trans c1
  have HC : Hid (∀ W : World, Below W0.heap.size W0 W → (W.cell? ⟨w.heap.size, 0, none⟩ = some (.int .i64 N) ∧ W.cell? ⟨w.heap.size, 1, none⟩ = some (.int .i64 1) ∧ W.cell? ⟨w.heap.size, 2, none⟩ = some (.int .i64 1) ∧ W.cell? ⟨w.heap.size, 3, none⟩ = some (.int .i64 3) ∧ W.cell? ⟨w.heap.size, 4, none⟩ = some (.slice (some ⟨b, 0, none⟩) 1 c)) ∧ W.cell? ⟨b, 0, none⟩ = some (.int .i64 0) ∧ W.cell? ⟨b, 1, none⟩ = some (.int .i64 2)) := fun W h => by
    have e := (h.block _ hs0).trans hX0
    exact ⟨by simp [World.cell?, e], (h.cell (p := ⟨b, 0, none⟩) hbl0).trans d0, (h.cell (p := ⟨b, 1, none⟩) hbl0).trans d1⟩
  have HW0 : Hid (W0 = w.alloc (.cells #[.int .i64 N, .int .i64 1, .int .i64 1, .int .i64 3, .slice (some ⟨b, 0, none⟩) 1 c] 87)) := hW0
  have h3N : ¬ N ≤ 3 := by omega
  have h2N : ¬ N ≤ 2 := by omega
  have hd2 : decide (N ≤ 2) = false := decide_eq_false h2N
  have hd3 : decide (N ≤ 3) = false := decide_eq_false h3N
  have h00 : decide ((0 : Int) < 0) = false := by decide
  obtain ⟨⟨x0, x1, x2, x3, x4⟩, _, _⟩ := HC.out W0 (Below.refl _ _)
  clear hW0 hX0 d0 d1
  go_enter Tryz.func50, Tryz.ntmps50
  go_upto_region 1 with fail
  rw [← HW0.out]
  go_wp2_with fail
  refine (l1BlocksOK_any _ _).mono ?_
  rintro e w1 ⟨rfl, rfl⟩
  rw [inB_true hN]
  go_wp2_with fail
  clear x0 x1 x2 x3 x4
  go_loopw [3] (fun i wr => (i = .int .i64 0 ∨ i = .int .i64 1) ∧ Below W0.heap.size W0 wr) (fun i _ => 1 - (intOf i).toNat)
  case atStart => exact ⟨.inl rfl, Below.refl _ _⟩
  case round =>
    obtain ⟨hi, hb⟩ := hrel
    obtain ⟨⟨x0, x1, x2, x3, x4⟩, y0, y1⟩ := HC.out wr hb
    rcases hi with rfl | rfl
    · skip
      have hb2 := fun o => hb.trans ((belowA wr o).mono hb.size)
      have hsr : w.heap.size < wr.heap.size := World.block_lt_of_cell? _ _ x0
      have hbr : b < wr.heap.size := World.block_lt_of_cell? _ _ y0
      obtain ⟨W5, HW5⟩ : ∃ W5, Hid (W5 = wr.alloc (.cells #[.int .i64 0, .int .i64 2] 68)) := ⟨_, rfl⟩
      have hB5 : Below W0.heap.size W0 W5 := by rw [HW5.out]; exact hb2 _
      have r0 : W5.cell? ⟨wr.heap.size, 0, none⟩ = some (.int .i64 0) := by rw [HW5.out]; exact World.cell?_alloc_at _ _ _ _ rfl
      have r1 : W5.cell? ⟨wr.heap.size, 1, none⟩ = some (.int .i64 2) := by rw [HW5.out]; exact World.cell?_alloc_at _ _ _ _ rfl
      go_wp2_with fail
      rw [← HW5.out]
      clear x0 x1 x2 x3 x4 y0 y1 hb2 hsr hbr
      obtain ⟨⟨x0, x1, x2, x3, x4⟩, _, _⟩ := HC.out W5 hB5
      clear x1 x3 x4
      go_quiet (fail)
      go_wp2
      go_roundw
      case rel => exact ⟨.inr (by go_num), below_drewN hB5 _⟩
      case measure => simp [intOf]
    · go_wp2
      go_ret
      exact ⟨rfl, hb0.trans (hb.mono (Nat.le_of_lt hs0))⟩

end Go.Proofs.YtpjdhfbeofdplaaGreatDoor

namespace Go.Proofs.YtpjdhfbeofdplaaGreatDoor
open Go.RowKit

/-- the first sixteen bytes of a fresh superblock -/
def su16 (N : Int) : List Int := [4, 1] ++ leN N 2 ++ leN 1 8 ++ leN 1 2 ++ leN 3 2
theorem su16_all (N : Int) : su16 N ++ leN 0 2 ++ leN 2 2 = supP N := rfl
theorem su16_length (N : Int) : (su16 N).length = 16 := by simp [su16, leN_length]

set_option maxRecDepth 100000 in
set_option maxHeartbeats 4000000 in
theorem specEncSup (N : Int) (hN : 8 ≤ N ∧ N ≤ 512) (b c : Nat) (w : World) (c0 : w.cell? ⟨b, 0, none⟩ = some (.int .i64 0)) (c1 : w.cell? ⟨b, 1, none⟩ = some (.int .i64 2)) :
    Calls Tryz.prog 36 #[.agg #[.int .i64 N, .int .i64 1, .int .i64 1, .int .i64 3, .slice (some ⟨b, 0, none⟩) 1 c]] w fun e w' => ∃ u, e = .returned (.tuple #[u, .int .i64 0]) ∧ Row8 w.heap.size w' u (slL (su6 N)) ∧ Below w.heap.size w w' := by
  rw [suL_seal]
  have hbl : b < w.heap.size := World.block_lt_of_cell? _ _ c0
  obtain ⟨W0, hW0⟩ : ∃ W0, W0 = w.alloc (.cells #[.int .i64 N, .int .i64 1, .int .i64 1, .int .i64 3, .slice (some ⟨b, 0, none⟩) 1 c] 87) := ⟨_, rfl⟩
  have hb0 : Below w.heap.size w W0 := by rw [hW0]; exact belowA _ _
  have hX0 : W0.heap[w.heap.size]? = some (.cells #[.int .i64 N, .int .i64 1, .int .i64 1, .int .i64 3, .slice (some ⟨b, 0, none⟩) 1 c] 87 (0, 0)) := by rw [hW0]; exact heap_alloc_new _ _
  have hs0 : w.heap.size < W0.heap.size := (Array.getElem?_eq_some_iff.1 hX0).1
  have hbl0 : b < W0.heap.size := by omega
  have d0 : W0.cell? ⟨b, 0, none⟩ = some (.int .i64 0) := (hb0.cell (p := ⟨b, 0, none⟩) hbl).trans c0
  have d1 : W0.cell? ⟨b, 1, none⟩ = some (.int .i64 2) := (hb0.cell (p := ⟨b, 1, none⟩) hbl).trans c1
  have HC : Hid (∀ W : World, Below W0.heap.size W0 W → (W.cell? ⟨w.heap.size, 0, none⟩ = some (.int .i64 N) ∧ W.cell? ⟨w.heap.size, 1, none⟩ = some (.int .i64 1) ∧ W.cell? ⟨w.heap.size, 2, none⟩ = some (.int .i64 1) ∧ W.cell? ⟨w.heap.size, 3, none⟩ = some (.int .i64 3) ∧ W.cell? ⟨w.heap.size, 4, none⟩ = some (.slice (some ⟨b, 0, none⟩) 1 c)) ∧ W.cell? ⟨b, 0, none⟩ = some (.int .i64 0) ∧ W.cell? ⟨b, 1, none⟩ = some (.int .i64 2)) := fun W h => by
    have e := (h.block _ hs0).trans hX0
    exact ⟨by simp [World.cell?, e], (h.cell (p := ⟨b, 0, none⟩) hbl0).trans d0, (h.cell (p := ⟨b, 1, none⟩) hbl0).trans d1⟩
  have HW0 : Hid (W0 = w.alloc (.cells #[.int .i64 N, .int .i64 1, .int .i64 1, .int .i64 3, .slice (some ⟨b, 0, none⟩) 1 c] 87)) := hW0
  have HB0 : Hid (Below w.heap.size w W0) := hb0
  have HS0 : Hid (w.heap.size ≤ W0.heap.size) := Nat.le_of_lt hs0
  obtain ⟨⟨x0, x1, x2, x3, x4⟩, _, _⟩ := HC.out W0 (Below.refl _ _)
  clear hW0
  go_enter Tryz.func36, Tryz.ntmps36
  go_upto_region 1 with fail
  rw [← HW0.out]
  go_wp2_with fail
  refine (superOK N hN b c W0 d0 d1).mono ?_
  rintro e w1 ⟨rfl, hb1⟩
  clear x0 x1 x2 x3 x4 hX0 d0 d1 hb0 hs0 hbl0 c0 c1 hbl
  obtain ⟨⟨x0, x1, x2, x3, x4⟩, _, _⟩ := HC.out w1 hb1
  have hlt : w.heap.size < w1.heap.size := World.block_lt_of_cell? _ _ x0
  obtain ⟨W2, HW2⟩ : ∃ W2, Hid (W2 = w1.alloc (.cells #[.int .u8 4, .int .u8 1] 5)) := ⟨_, rfl⟩
  have hR2 : Row8 W0.heap.size W2 (.slice (some ⟨w1.heap.size, 0, none⟩) 2 2) [4, 1] := by rw [HW2.out]; exact Row8.two _ _ hb1.size 4 1
  have hB2 : Below W0.heap.size W0 W2 := by rw [HW2.out]; exact hb1.trans ((belowA w1 _).mono hb1.size)
  go_wp2_with fail
  rw [← HW2.out]
  refine (l2Num_any _ [4, 1] N 2 W0.heap.size W2 hR2 hB2.size (by decide) (by omega)).mono ?_
  rintro e w3 ⟨u3, rfl, hR3, hb3⟩
  have hB3 := hB2.trans hb3
  clear x0 x1 x2 x3 x4 hR2 hB2 hb3
  obtain ⟨⟨x0, x1, x2, x3, x4⟩, _, _⟩ := HC.out w3 hB3
  go_wp2_with fail
  refine (l2Num_any _ _ 1 8 W0.heap.size w3 hR3 hB3.size (by simp [leN_length]) (by omega)).mono ?_
  rintro e w4 ⟨u4, rfl, hR4, hb4⟩
  have hB4 := hB3.trans hb4
  clear x0 x1 x2 x3 x4 hR3 hb4
  obtain ⟨⟨x0, x1, x2, x3, x4⟩, _, _⟩ := HC.out w4 hB4
  go_wp2_with fail
  refine (l2Num_any _ _ 1 2 W0.heap.size w4 hR4 hB4.size (by simp [leN_length]) (by omega)).mono ?_
  rintro e w5 ⟨u5, rfl, hR5, hb5⟩
  have hB5 := hB4.trans hb5
  clear x0 x1 x2 x3 x4 hR4 hb5
  obtain ⟨⟨x0, x1, x2, x3, x4⟩, _, _⟩ := HC.out w5 hB5
  go_wp2_with fail
  refine (l2Num_any _ _ 3 2 W0.heap.size w5 hR5 hB5.size (by simp [leN_length]) (by omega)).mono ?_
  rintro e w6 ⟨u6, rfl, hR6, hb6⟩
  have hB6 := hB5.trans hb6
  have HR6 : Hid (Row8 W0.heap.size w6 u6 (su16 N)) := hR6
  clear x0 x1 x2 x3 x4 hR5 hb6 hR6
  go_wp2_with fail
  go_loopw [4, 5] (fun u i wr => ∃ k : Nat, k ≤ 1 ∧ i = .int .i64 k ∧ Below W0.heap.size W0 wr ∧ (k = 0 → Row8 W0.heap.size wr u (su16 N)) ∧ (k = 1 → Row8 W0.heap.size wr u (supP N))) (fun _ i _ => 1 - (intOf i).toNat)
  case atStart => exact ⟨0, by omega, rfl, hB6, fun _ => HR6.out, fun h => by omega⟩
  case round =>
    obtain ⟨k, hk, rfl, hb, hk0, hk1⟩ := hrel
    obtain ⟨⟨x0, x1, x2, x3, x4⟩, y0, y1⟩ := HC.out wr hb
    by_cases h0 : k = 0
    · subst h0
      have hR := hk0 rfl
      clear hk0 hk1
      go_wp2_with fail
      refine (l2Num_any _ _ 0 2 W0.heap.size wr hR hb.size (by rw [su16_length]; omega) (by omega)).mono ?_
      rintro e w7 ⟨u7, rfl, hR7, hb7⟩
      have hB7 := hb.trans hb7
      clear x0 x1 x2 x3 x4 y0 y1 hR hb7
      obtain ⟨⟨x0, x1, x2, x3, x4⟩, y0, y1⟩ := HC.out w7 hB7
      go_wp2_with fail
      refine (l2Num_any _ _ 2 2 W0.heap.size w7 hR7 hB7.size (by rw [List.length_append, su16_length, leN_length]; omega) (by omega)).mono ?_
      rintro e w8 ⟨u8, rfl, hR8, hb8⟩
      have hB8 := hB7.trans hb8
      rw [su16_all] at hR8
      clear x0 x1 x2 x3 x4 y0 y1 hR7 hb8
      go_wp2
      go_roundw
      case rel => exact ⟨1, by omega, by go_num, hB8, fun h => by omega, fun _ => hR8⟩
      case measure => simp [intOf]
    · obtain rfl : k = 1 := by omega
      have hR := hk1 rfl
      clear hk0 hk1
      go_wp2_with fail
      refine (l2Seal_any _ (supP N) W0.heap.size wr hR hb.size (by rw [supP_length]; omega) (supP_byt N)).mono ?_
      rintro e w9 ⟨u9, rfl, hR9, hb9⟩
      have hBw : Below w.heap.size w w9 := HB0.out.trans ((hb.trans hb9).mono HS0.out)
      have hRw := hR9.lower HS0.out
      clear x0 x1 x2 x3 x4 y0 y1
      go_wp2
      exact bodyPost_ret (v := .tuple #[u9, .int .i64 0]) (by simp [results, Tryz.results36, go_sem]) rfl ⟨u9, rfl, hRw, hBw⟩

end Go.Proofs.YtpjdhfbeofdplaaGreatDoor
