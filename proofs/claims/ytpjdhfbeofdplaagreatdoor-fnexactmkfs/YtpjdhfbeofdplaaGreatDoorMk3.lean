import Derived.Test.YtpjdhfbeofdplaaGreatDoorMk2
namespace Go.Proofs.YtpjdhfbeofdplaaGreatDoor
open Go.RowKit

set_option maxHeartbeats 1000000 in
theorem checkNumber3 (w : World) : Calls Tryz.prog 97 #[.agg #[.int .i64 3, .int .i64 1]] w fun e w' => e = .returned .nilIface ∧ Below w.heap.size w w' := by
  have hb0 := belowA w (.cells #[.int .i64 3, .int .i64 1] 113)
  go_enter Tryz.func97, Tryz.ntmps97
  go_wp2_with fail
  refine (within_any _ _ _ _).mono ?_
  rintro e w1 ⟨rfl, rfl⟩
  rw [inB_true (by omega)]
  go_wp2
  go_ret
  exact ⟨rfl, hb0⟩

/-- the one run of a fresh volume -/
abbrev run1 : List R3 := [(2, 2, 1)]
theorem run1_cells {w : World} {a : Option Addr} {c : Nat} (hv : RRead w (.slice a 1 c) run1) : ∃ b off, a = some ⟨b, off, none⟩ ∧ w.cell? ⟨b, off, none⟩ = some (.int .i64 2) ∧ w.cell? ⟨b, off + 1, none⟩ = some (.int .i64 2) ∧ w.cell? ⟨b, off + 2, none⟩ = some (.int .i64 1) := by
  obtain ⟨a', c', he, hc⟩ := hv
  simp only [Value.slice.injEq] at he
  obtain ⟨rfl, _, rfl⟩ := he
  obtain ⟨b, off, ha, h⟩ := hc (by decide)
  obtain ⟨h0, h1, h2⟩ := h 0 (by decide)
  exact ⟨b, off, ha, by simpa using h0, by simpa using h1, by simpa using h2⟩

set_option maxRecDepth 100000 in
set_option maxHeartbeats 2000000 in
theorem checkRuns1 (a : Option Addr) (c : Nat) (w : World) (hv : RRead w (.slice a 1 c) run1) : Calls Tryz.prog 98 #[.slice a 1 c] w fun e w' => e = .returned .nilIface ∧ Below w.heap.size w w' := by
  obtain ⟨b, off, rfl, d0, d1, d2⟩ := run1_cells hv
  have hbl : b < w.heap.size := World.block_lt_of_cell? _ _ d0
  clear hv
  go_enter Tryz.func98, Tryz.ntmps98
  go_wp2
  go_loopw [8] (fun i wr => ∃ k : Nat, k ≤ 1 ∧ i = .int .i64 k ∧ Below w.heap.size w wr) (fun i _ => 1 - (intOf i).toNat)
  case atStart => exact ⟨0, by omega, rfl, Below.refl _ _⟩
  case round =>
    obtain ⟨k, hk, rfl, hb⟩ := hrel
    by_cases h0 : k = 0
    · subst h0
      have e0 : wr.cell? ⟨b, off, none⟩ = some (.int .i64 2) := (hb.cell (p := ⟨b, off, none⟩) hbl).trans d0
      have e1 : wr.cell? ⟨b, off + 1, none⟩ = some (.int .i64 2) := (hb.cell (p := ⟨b, off + 1, none⟩) hbl).trans d1
      have e2 : wr.cell? ⟨b, off + 2, none⟩ = some (.int .i64 1) := (hb.cell (p := ⟨b, off + 2, none⟩) hbl).trans d2
      have hbA := belowA wr (.cells #[.int .i64 2, .int .i64 2, .int .i64 1] 57)
      have HIN : Hid (inRb (2, 2, 1) = true) := (show inRb (2, 2, 1) = true by decide)
      go_wp2_with fail
      refine (inBounds_any 2 2 1 _).mono ?_
      rintro e w1 ⟨rfl, hb1⟩
      rw [HIN.out]
      have hbx := hbA.trans (hb1.mono hbA.size)
      have hb2 := hb.trans (hbx.mono hb.size)
      have x0 : w1.cell? ⟨wr.heap.size, 0, none⟩ = some (.int .i64 2) := (hb1.cell (p := ⟨wr.heap.size, 0, none⟩) (by simp)).trans (World.cell?_alloc_at _ _ _ _ rfl)
      clear hbA hb1 hbx e0 e1 e2
      go_wp2
      go_quiet (fail)
      go_wp2
      go_roundw
      case rel => exact ⟨1, by omega, by go_num, below_drewN hb2 _⟩
      case measure => simp [intOf]
    · obtain rfl : k = 1 := by omega
      go_wp2
      go_ret
      exact ⟨rfl, hb⟩

set_option maxRecDepth 100000 in
set_option maxHeartbeats 2000000 in
theorem tableCheck1 (a : Option Addr) (c : Nat) (w : World) (hv : RRead w (.slice a 1 c) run1) : Calls Tryz.prog 95 #[.agg #[.int .i64 3, .int .i64 1, .int .i64 0, .slice a 1 c]] w fun e w' => e = .returned .nilIface ∧ Below w.heap.size w w' := by
  have hb0 := belowA w (.cells #[.int .i64 3, .int .i64 1, .int .i64 0, .slice a 1 c] 116)
  go_enter Tryz.func95, Tryz.ntmps95
  go_wp2_with fail
  refine (checkNumber3 _).mono ?_
  rintro e w1 ⟨rfl, hb1⟩
  have hB1 := hb0.trans (hb1.mono hb0.size)
  have k2 : w1.cell? ⟨w.heap.size, 2, none⟩ = some (.int .i64 0) := (hb1.cell (p := ⟨w.heap.size, 2, none⟩) (by simp)).trans (World.cell?_alloc_at _ _ _ _ rfl)
  have k3 : w1.cell? ⟨w.heap.size, 3, none⟩ = some (.slice a 1 c) := (hb1.cell (p := ⟨w.heap.size, 3, none⟩) (by simp)).trans (World.cell?_alloc_at _ _ _ _ rfl)
  have hv1 := hv.below hB1
  clear hb0 hb1
  go_wp2_with fail
  refine (checkRuns1 a c w1 hv1).mono ?_
  rintro e w2 ⟨rfl, hb2⟩
  have hB2 := hB1.trans (hb2.mono hB1.size)
  go_wp2
  go_ret
  exact ⟨rfl, hB2⟩

set_option maxRecDepth 100000 in
set_option maxHeartbeats 2000000 in
theorem encodeForm_table (a : Option Addr) (c : Nat) {w : World} (hl : (layP 0 run1 1).length = 128) (hby : Byt (layP 0 run1 1))
    (hC : Calls Tryz.prog 95 #[.agg #[.int .i64 3, .int .i64 1, .int .i64 0, .slice a 1 c]] w fun e w' => e = .returned .nilIface ∧ Below w.heap.size w w')
    (hY : ∀ W, Below w.heap.size w W → Calls Tryz.prog 96 #[.agg #[.int .i64 3, .int .i64 1, .int .i64 0, .slice a 1 c]] W fun e W' => e = .returned (.agg (u8s (layP 0 run1 1))) ∧ Below W.heap.size W W') :
    Calls Tryz.prog 53 #[.iface 116 (.agg #[.int .i64 3, .int .i64 1, .int .i64 0, .slice a 1 c])] w fun e w' => ∃ g, e = .returned (.tuple #[.slice (some ⟨g, 0, none⟩) 128 128, .nilIface]) ∧ w.heap.size ≤ g ∧ Dat w' g 121 (slL (layP 0 run1 1)) ∧ Below w.heap.size w w' := by
  have mC : ∀ (v : Value) (w : World), (Go.method 307 116 v "loop.example/s01595/impl.check").run Tryz.prog w = .ok (95, v) w := fun v w => by kernel_rfl
  have mL : ∀ (v : Value) (w : World), (Go.method 307 116 v "loop.example/s01595/impl.lay").run Tryz.prog w = .ok (96, v) w := fun v w => by kernel_rfl
  generalize layP 0 run1 1 = ds at *
  have HSL : Hid (putL ds 124 (crcOf (ds.take 124)) 4 = slL ds) := rfl
  have hT := slL_length hl
  go_enter Tryz.func53, Tryz.ntmps53
  go_wp2_with fail
  refine hC.mono ?_
  rintro e w1 ⟨rfl, hb1⟩
  go_wp2_with fail
  refine (hY w1 hb1).mono ?_
  rintro e w2 ⟨rfl, hb2⟩
  have hB2 := hb1.trans (hb2.mono hb1.size)
  go_wp2_with fail
  refine (sealed_any ds hl hby w2).mono ?_
  rintro e w3 ⟨rfl, hb3⟩
  rw [HSL.out]
  have hB3 := hB2.trans (hb3.mono hB2.size)
  have hs3 := hB3.size
  have hA : Dat (w3.alloc (.cells (u8s (slL ds)) 121)) w3.heap.size 121 (slL ds) := heap_alloc_new w3 _
  have hB4 := fun o => hB3.trans ((belowA w3 o).mono hB3.size)
  clear hb1 hb2 hb3 hB2 hB3 hC hY
  go_wp2_with (first | ((with_reducible refine wpList_alloc128 ?_ ?_); exact ⟨rfl, rfl⟩) | ((with_reducible refine wpList_store_new hT ?_ ?_); exact ⟨rfl, _, _, _, rfl, rfl, rfl, rfl⟩))
  exact bodyPost_ret (v := .tuple #[.slice (some ⟨w3.heap.size, 0, none⟩) 128 128, .nilIface]) (by simp [results, Tryz.results53, go_sem]) rfl ⟨_, rfl, hs3, hA, hB4 _⟩

theorem run1_seal : slL (layP 0 run1 1) = tabL 0 run1 := layP_seal 0 run1 (by decide)

theorem encodeFormT1 (a : Option Addr) (c : Nat) (w : World) (hv : RRead w (.slice a 1 c) run1) :
    Calls Tryz.prog 53 #[.iface 116 (.agg #[.int .i64 3, .int .i64 1, .int .i64 0, .slice a 1 c])] w fun e w' => ∃ g, e = .returned (.tuple #[.slice (some ⟨g, 0, none⟩) 128 128, .nilIface]) ∧ w.heap.size ≤ g ∧ Dat w' g 121 (slL (layP 0 run1 1)) ∧ Below w.heap.size w w' :=
  encodeForm_table a c (layP_length 0 run1 1 (by omega)) (layP_byt 0 run1 (by decide) 1 (by omega)) (tableCheck1 a c w hv) (fun W hW => layT_any 0 a c run1 W (hv.below hW) (by decide))

set_option maxRecDepth 100000 in
set_option maxHeartbeats 2000000 in
theorem implEncT1 (a : Option Addr) (c : Nat) (w : World) (hv : RRead w (.slice a 1 c) run1) :
    Calls Tryz.prog 39 #[.agg #[.int .i64 0, .slice a 1 c]] w fun e w' => ∃ g, e = .returned (.tuple #[.slice (some ⟨g, 0, none⟩) 128 128, .int .i64 0]) ∧ w.heap.size ≤ g ∧ Dat w' g 121 (slL (layP 0 run1 1)) ∧ Below w.heap.size w w' := by
  have hb0 := belowA w (.cells #[.int .i64 0, .slice a 1 c] 84)
  have e0 : (w.alloc (.cells #[.int .i64 0, .slice a 1 c] 84)).cell? ⟨w.heap.size, 0, none⟩ = some (.int .i64 0) := World.cell?_alloc_at _ _ _ _ rfl
  have e1 : (w.alloc (.cells #[.int .i64 0, .slice a 1 c] 84)).cell? ⟨w.heap.size, 1, none⟩ = some (.slice a 1 c) := World.cell?_alloc_at _ _ _ _ rfl
  have hs0 : w.heap.size < (w.alloc (.cells #[.int .i64 0, .slice a 1 c] 84)).heap.size := by simp
  go_enter Tryz.func39, Tryz.ntmps39
  go_wp2_with fail
  generalize w.alloc (.cells #[.int .i64 0, .slice a 1 c] 84) = W0 at *
  have HB0 : Hid (Below w.heap.size w W0) := hb0
  have HS0 : Hid (w.heap.size < W0.heap.size) := hs0
  clear hb0 hs0
  go_region_held3 (fun w' => w'.cell? ⟨w.heap.size, 0, none⟩ = some (.int .i64 0) ∧ w'.cell? ⟨w.heap.size, 1, none⟩ = some (.slice a 1 c)) (first | go_keep | assumption)
    ((first
      | (go_at_call 55; refine (headerOf_good 3 1 (by omega) W0.drew).mono ?_; rintro e w1 ⟨rfl, hb1⟩; have hk1 : w1.cell? ⟨w.heap.size, 0, none⟩ = some (.int .i64 0) ∧ w1.cell? ⟨w.heap.size, 1, none⟩ = some (.slice a 1 c) := ⟨(hb1.cell (p := ⟨w.heap.size, 0, none⟩) HS0.out).trans e0, (hb1.cell (p := ⟨w.heap.size, 1, none⟩) HS0.out).trans e1⟩)
      | (go_at_call 53; have hbw1 := HB0.out.drew.trans (hb1.mono HB0.out.size); have hs1 : w.heap.size < w1.heap.size := Nat.lt_of_lt_of_le HS0.out hb1.size; refine (encodeFormT1 a c w1 (hv.below hbw1)).mono ?_; rintro e w2 ⟨g, rfl, hg, hD, hb2⟩; have hk2 : w2.cell? ⟨w.heap.size, 0, none⟩ = some (.int .i64 0) ∧ w2.cell? ⟨w.heap.size, 1, none⟩ = some (.slice a 1 c) := ⟨(hb2.cell (p := ⟨w.heap.size, 0, none⟩) hs1).trans hk1.1, (hb2.cell (p := ⟨w.heap.size, 1, none⟩) hs1).trans hk1.2⟩)))
  have hB2 := hbw1.trans (hb2.mono hbw1.size)
  have hg1 : w.heap.size ≤ g := Nat.le_trans (Nat.le_of_lt hs1) hg
  have HD : Hid (Dat w2 g 121 _) := hD
  clear hk1 hk2 e0 e1 hD hb2 hbw1 hb1
  go_wp2_with fail
  refine (codeNil _).mono ?_
  rintro e w3 ⟨rfl, hb3⟩
  have hD3 := HD.out.below hb3
  have hB3 := hB2.trans (hb3.mono hB2.size)
  go_wp2
  exact bodyPost_ret (v := .tuple #[.slice (some ⟨g, 0, none⟩) 128 128, .int .i64 0]) (by simp [results, Tryz.results39, go_sem]) rfl ⟨g, rfl, hg1, hD3, hB3⟩

set_option maxRecDepth 100000 in
set_option maxHeartbeats 2000000 in
theorem implEncS1 (N : Int) (hN : 8 ≤ N ∧ N ≤ 512) (b : Nat) (w : World) (c0 : w.cell? ⟨b, 0, none⟩ = some (.int .i64 0)) (c1 : w.cell? ⟨b, 1, none⟩ = some (.int .i64 2)) :
    Calls Tryz.prog 40 #[.agg #[.int .i64 N, .int .i64 1, .int .i64 1, .int .i64 3, .slice (some ⟨b, 0, none⟩) 1 1]] w fun e w' => ∃ g, e = .returned (.tuple #[.slice (some ⟨g, 0, none⟩) 128 128, .int .i64 0]) ∧ w.heap.size ≤ g ∧ Dat w' g 121 (slL (su6 N)) ∧ Below w.heap.size w w' := by
  have hbl : b < w.heap.size := World.block_lt_of_cell? _ _ c0
  have hb0 := belowA w (.cells #[.int .i64 N, .int .i64 1, .int .i64 1, .int .i64 3, .slice (some ⟨b, 0, none⟩) 1 1] 87)
  have hX0 : (w.alloc (.cells #[.int .i64 N, .int .i64 1, .int .i64 1, .int .i64 3, .slice (some ⟨b, 0, none⟩) 1 1] 87)).heap[w.heap.size]? = some (.cells #[.int .i64 N, .int .i64 1, .int .i64 1, .int .i64 3, .slice (some ⟨b, 0, none⟩) 1 1] 87 (0, 0)) := heap_alloc_new w _
  have hcell : ∀ W : World, W.heap[w.heap.size]? = some (.cells #[.int .i64 N, .int .i64 1, .int .i64 1, .int .i64 3, .slice (some ⟨b, 0, none⟩) 1 1] 87 (0, 0)) → W.cell? ⟨w.heap.size, 0, none⟩ = some (.int .i64 N) ∧ W.cell? ⟨w.heap.size, 1, none⟩ = some (.int .i64 1) ∧ W.cell? ⟨w.heap.size, 2, none⟩ = some (.int .i64 1) ∧ W.cell? ⟨w.heap.size, 3, none⟩ = some (.int .i64 3) ∧ W.cell? ⟨w.heap.size, 4, none⟩ = some (.slice (some ⟨b, 0, none⟩) 1 1) := fun W h => by
    simp [World.cell?, h]
  have hs0 : w.heap.size < (w.alloc (.cells #[.int .i64 N, .int .i64 1, .int .i64 1, .int .i64 3, .slice (some ⟨b, 0, none⟩) 1 1] 87)).heap.size := by simp
  go_enter Tryz.func40, Tryz.ntmps40
  go_wp2_with fail
  generalize w.alloc (.cells #[.int .i64 N, .int .i64 1, .int .i64 1, .int .i64 3, .slice (some ⟨b, 0, none⟩) 1 1] 87) = W0 at *
  have HB0 : Hid (Below w.heap.size w W0) := hb0
  have HS0 : Hid (w.heap.size < W0.heap.size) := hs0
  have HX0 : Hid _ := hX0
  have HCELL : Hid _ := hcell
  obtain ⟨x0, x1, x2, x3, x4⟩ := hcell W0 hX0
  clear hb0 hs0 hX0 hcell
  go_region_held3 (fun w' => w'.cell? ⟨w.heap.size, 0, none⟩ = some (.int .i64 N) ∧ w'.cell? ⟨w.heap.size, 1, none⟩ = some (.int .i64 1) ∧ w'.cell? ⟨w.heap.size, 2, none⟩ = some (.int .i64 1) ∧ w'.cell? ⟨w.heap.size, 3, none⟩ = some (.int .i64 3) ∧ w'.cell? ⟨w.heap.size, 4, none⟩ = some (.slice (some ⟨b, 0, none⟩) 1 1)) (first | go_keep | assumption)
    ((first
      | (go_at_call 55; refine (headerOf_good 4 1 (by omega) W0.drew).mono ?_; rintro e w1 ⟨rfl, hb1⟩; have hX1 := (hb1.block _ HS0.out).trans HX0.out; have hk1 := HCELL.out w1 hX1)
      | (go_at_call 53; have hbw1 := HB0.out.drew.trans (hb1.mono HB0.out.size); have hs1 : w.heap.size < w1.heap.size := Nat.lt_of_lt_of_le HS0.out hb1.size; refine (encodeFormS N hN b w1 ((hbw1.cell (p := ⟨b, 0, none⟩) hbl).trans c0) ((hbw1.cell (p := ⟨b, 1, none⟩) hbl).trans c1)).mono ?_; rintro e w2 ⟨g, rfl, hg, hD, hb2⟩; have hk2 := HCELL.out w2 ((hb2.block _ hs1).trans hX1))))
  have hB2 := hbw1.trans (hb2.mono hbw1.size)
  have hg1 : w.heap.size ≤ g := Nat.le_trans (Nat.le_of_lt hs1) hg
  have HD : Hid (Dat w2 g 121 _) := hD
  clear hk1 hk2 x0 x1 x2 x3 x4 hX1 hD hb2 hbw1 hb1
  go_wp2_with fail
  refine (codeNil _).mono ?_
  rintro e w3 ⟨rfl, hb3⟩
  have hD3 := HD.out.below hb3
  have hB3 := hB2.trans (hb3.mono hB2.size)
  go_wp2
  exact bodyPost_ret (v := .tuple #[.slice (some ⟨g, 0, none⟩) 128 128, .int .i64 0]) (by simp [results, Tryz.results40, go_sem]) rfl ⟨g, rfl, hg1, hD3, hB3⟩

set_option maxHeartbeats 1000000 in
theorem writeStep_any (k : Int) (a : Option Addr) (n c : Nat) (w : World) : Calls Tryz.prog 26 #[.int .i64 k, .slice a n c] w fun e w' => e = .returned (.agg #[.int .i64 1, .int .i64 k, .slice a n c]) ∧ Below w.heap.size w w' := by
  have hb := belowA w
  go_enter Tryz.func26, Tryz.ntmps26
  go_wp2
  exact bodyPost_ret (v := .agg #[.int .i64 1, .int .i64 k, .slice a n c]) (by simp [results, Tryz.results26, go_sem]) rfl ⟨rfl, hb _⟩

set_option maxHeartbeats 1000000 in
theorem flushStep_any (w : World) : Calls Tryz.prog 29 #[] w fun e w' => e = .returned (.agg #[.int .i64 2, .int .i64 0, .slice none 0 0]) ∧ Below w.heap.size w w' := by
  have hb := belowA w
  go_enter Tryz.func29, Tryz.ntmps29
  go_wp2
  exact bodyPost_ret (v := .agg #[.int .i64 2, .int .i64 0, .slice none 0 0]) (by simp [results, Tryz.results29, go_sem]) rfl ⟨rfl, hb _⟩

set_option maxHeartbeats 1000000 in
theorem slotOf1 (w : World) : Calls Tryz.prog 42 #[.int .i64 1] w fun e w' => e = .returned (.int .i64 1) ∧ w = w' := by
  go_enter Tryz.func42, Tryz.ntmps42
  go_wp2
  go_ret
  exact ⟨rfl, rfl⟩

set_option maxRecDepth 100000 in
set_option maxHeartbeats 2000000 in
theorem runsFor1 (a : Addr) (c : Nat) (hc : 1 ≤ c) (w : World) : Calls Tryz.prog 54 #[.slice (some a) 1 c, .int .i64 0] w fun e w' => e = .returned (.slice (some a) 1 c) ∧ w = w' := by
  have hc1 : (1 : Int) ≤ (c : Int) := by omega
  have hc0 : ¬ c = 0 := by omega
  go_enter Tryz.func54, Tryz.ntmps54
  go_wp2
  go_ret
  exact ⟨rfl, rfl⟩

end Go.Proofs.YtpjdhfbeofdplaaGreatDoor
