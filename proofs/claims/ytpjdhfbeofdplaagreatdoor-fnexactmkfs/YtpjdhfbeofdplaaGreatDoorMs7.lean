import Derived.Test.YtpjdhfbeofdplaaGreatDoorMs6
namespace Go.Proofs.YtpjdhfbeofdplaaGreatDoor
open Go.RowKit

/-- the fresh state, as its superblock needs it -/
structure SuS (n : Nat) (sb ra rc ta tc : Nat) (w : World) : Prop where
  st : w.cell? ⟨sb, 0, none⟩ = some (.int .i64 n) ∧ w.cell? ⟨sb, 2, none⟩ = some (.slice (some ⟨ra, 0, none⟩) 1 rc) ∧ w.cell? ⟨sb, 3, none⟩ = some (.int .i64 1) ∧ w.cell? ⟨sb, 4, none⟩ = some (.int .i64 1) ∧ w.cell? ⟨sb, 6, none⟩ = some (.slice (some ⟨ta, 0, none⟩) 1 tc) ∧ w.cell? ⟨ra, 0, none⟩ = some (.int .i64 0) ∧ w.cell? ⟨ra, 1, none⟩ = some (.int .i64 2) ∧ w.cell? ⟨ta, 0, none⟩ = some (.int .i64 3)
theorem SuS.below {n sb ra rc ta tc : Nat} {w w' : World} (h : SuS n sb ra rc ta tc w) (k : Below w.heap.size w w') : SuS n sb ra rc ta tc w' := by
  obtain ⟨m0, m2, m3, m4, m6, m7, m8, m9⟩ := h.st
  have e : ∀ p v, w.cell? p = some v → w'.cell? p = some v := fun p v hp => (k.cell (p := p) (World.block_lt_of_cell? _ _ hp)).trans hp
  exact ⟨e _ _ m0, e _ _ m2, e _ _ m3, e _ _ m4, e _ _ m6, e _ _ m7, e _ _ m8, e _ _ m9⟩
theorem Row8.setAhead {base : Nat} {w : World} {v : Value} {zs : List Int} (h : Row8 base w v zs) (p : Addr) (hp : p.block < base) (u : Value) : Row8 base (w.setCell p u) v zs := by
  refine ⟨h.1, ?_⟩
  rcases h.2 with hv | ⟨g, cap, cur, hv, h1, h2, h3⟩
  · exact .inl hv
  · exact .inr ⟨g, cap, cur, hv, h1, (Below.heap_setCell _ p _ g (by omega)).trans h2, h3⟩
theorem infoRoot : (Tryz.prog.info? 68).map (fun i => (i.zero, i.size, i.bytes)) = some (some (.agg #[.int .i64 0, .int .i64 0]), 2, 16) := by kernel_rfl

set_option maxRecDepth 100000 in
set_option maxHeartbeats 4000000 in
theorem l5SuperStep_any (n : Nat) (hn : 8 ≤ n ∧ n ≤ 512) (sb ra rc ta tc : Nat) (w : World) (hc : SuS n sb ra rc ta tc w) : Calls Tryz.prog 22 #[.pointer (some ⟨sb, 0, none⟩)] w fun e w' => ∃ ua uc, e = .returned (.agg #[.int .i64 1, .int .i64 1, .slice ua 128 uc]) ∧ Row8 w.heap.size w' (.slice ua 128 uc) (slL (su6 n)) ∧ Below w.heap.size w w' := by
  have HC : Hid (∀ W, Below w.heap.size w W → SuS n sb ra rc ta tc W) := fun W h => hc.below h
  obtain ⟨W0, HW0⟩ : ∃ W0, Hid (W0 = w.alloc (.cells #[.int .i64 0, .int .i64 0, .slice none 0 0] 50)) := ⟨_, rfl⟩
  have hb0 : Below w.heap.size w W0 := by rw [HW0.out]; exact belowA _ _
  have hR0 : W0.heap[w.heap.size]? = some (.cells #[.int .i64 0, .int .i64 0, .slice none 0 0] 50 (0, 0)) := by rw [HW0.out]; exact heap_alloc_new _ _
  clear hc
  go_enter Tryz.func22, Tryz.ntmps22
  go_upto_region 1 with fail
  rw [← HW0.out]
  clear HW0
  refine wp_region_E (SuS n sb ra rc ta tc) 20 (by kernel_rfl) ?_
  have hq0 : SuS n sb ra rc ta tc W0.drew := HC.out _ hb0.drew
  refine wpAnyE_take (i := 0) 7 (.pointer (some ⟨sb, 0, none⟩)) (by kernel_rfl) rfl (by kernel_rfl) (by kernel_rfl) (by kernel_rfl) (fun _ _ _ h => h) rfl rfl hq0 (fun w' hw => by obtain ⟨m0, m2, m3, m4, m6, m7, m8, m9⟩ := hw.st; go_simp) ?_
  simp only [Act.put, List.setIfInBounds_toArray, List.set_cons_zero, List.set_cons_succ]
  refine wpAnyE_take (i := 1) 8 (.pointer (some ⟨sb, 0, none⟩)) (by kernel_rfl) rfl (by kernel_rfl) (by kernel_rfl) (by kernel_rfl) (fun _ _ _ h => h) rfl rfl hq0 (fun w' hw => by obtain ⟨m0, m2, m3, m4, m6, m7, m8, m9⟩ := hw.st; go_simp) ?_
  simp only [Act.put, List.setIfInBounds_toArray, List.set_cons_zero, List.set_cons_succ]
  refine wpAnyE_take (i := 2) 9 (.pointer (some ⟨sb, 0, none⟩)) (by kernel_rfl) rfl (by kernel_rfl) (by kernel_rfl) (by kernel_rfl) (fun _ _ _ h => h) rfl rfl hq0 (fun w' hw => by obtain ⟨m0, m2, m3, m4, m6, m7, m8, m9⟩ := hw.st; go_simp) ?_
  simp only [Act.put, List.setIfInBounds_toArray, List.set_cons_zero, List.set_cons_succ]
  refine wpAnyE_take (i := 3) 10 (.int .i64 n) (by kernel_rfl) rfl (by kernel_rfl) (by kernel_rfl) (by kernel_rfl) (fun _ _ _ h => h) rfl rfl hq0 (fun w' hw => by obtain ⟨m0, m2, m3, m4, m6, m7, m8, m9⟩ := hw.st; go_simp) ?_
  simp only [Act.put, List.setIfInBounds_toArray, List.set_cons_zero, List.set_cons_succ]
  refine wpAnyE_take (i := 4) 11 (.pointer (some ⟨sb, 0, none⟩)) (by kernel_rfl) rfl (by kernel_rfl) (by kernel_rfl) (by kernel_rfl) (fun _ _ _ h => h) rfl rfl hq0 (fun w' hw => by obtain ⟨m0, m2, m3, m4, m6, m7, m8, m9⟩ := hw.st; go_simp) ?_
  simp only [Act.put, List.setIfInBounds_toArray, List.set_cons_zero, List.set_cons_succ]
  refine wpAnyE_take (i := 5) 12 (.pointer (some ⟨sb, 0, none⟩)) (by kernel_rfl) rfl (by kernel_rfl) (by kernel_rfl) (by kernel_rfl) (fun _ _ _ h => h) rfl rfl hq0 (fun w' hw => by obtain ⟨m0, m2, m3, m4, m6, m7, m8, m9⟩ := hw.st; go_simp) ?_
  simp only [Act.put, List.setIfInBounds_toArray, List.set_cons_zero, List.set_cons_succ]
  refine wpAnyE_take (i := 6) 13 (.pointer (some ⟨sb, 4, none⟩)) (by kernel_rfl) rfl (by kernel_rfl) (by kernel_rfl) (by kernel_rfl) (fun _ _ _ h => h) rfl rfl hq0 (fun w' hw => by obtain ⟨m0, m2, m3, m4, m6, m7, m8, m9⟩ := hw.st; go_simp) ?_
  simp only [Act.put, List.setIfInBounds_toArray, List.set_cons_zero, List.set_cons_succ]
  refine wpAnyE_take (i := 7) 14 (.int .i64 1) (by kernel_rfl) rfl (by kernel_rfl) (by kernel_rfl) (by kernel_rfl) (fun _ _ _ h => h) rfl rfl hq0 (fun w' hw => by obtain ⟨m0, m2, m3, m4, m6, m7, m8, m9⟩ := hw.st; go_simp) ?_
  simp only [Act.put, List.setIfInBounds_toArray, List.set_cons_zero, List.set_cons_succ]
  refine wpAnyE_take (i := 8) 15 (.pointer (some ⟨sb, 0, none⟩)) (by kernel_rfl) rfl (by kernel_rfl) (by kernel_rfl) (by kernel_rfl) (fun _ _ _ h => h) rfl rfl hq0 (fun w' hw => by obtain ⟨m0, m2, m3, m4, m6, m7, m8, m9⟩ := hw.st; go_simp) ?_
  simp only [Act.put, List.setIfInBounds_toArray, List.set_cons_zero, List.set_cons_succ]
  refine wpAnyE_take (i := 9) 16 (.pointer (some ⟨sb, 0, none⟩)) (by kernel_rfl) rfl (by kernel_rfl) (by kernel_rfl) (by kernel_rfl) (fun _ _ _ h => h) rfl rfl hq0 (fun w' hw => by obtain ⟨m0, m2, m3, m4, m6, m7, m8, m9⟩ := hw.st; go_simp) ?_
  simp only [Act.put, List.setIfInBounds_toArray, List.set_cons_zero, List.set_cons_succ]
  refine wpAnyE_take (i := 10) 17 (.pointer (some ⟨sb, 3, none⟩)) (by kernel_rfl) rfl (by kernel_rfl) (by kernel_rfl) (by kernel_rfl) (fun _ _ _ h => h) rfl rfl hq0 (fun w' hw => by obtain ⟨m0, m2, m3, m4, m6, m7, m8, m9⟩ := hw.st; go_simp) ?_
  simp only [Act.put, List.setIfInBounds_toArray, List.set_cons_zero, List.set_cons_succ]
  refine wpAnyE_take (i := 11) 18 (.int .i64 1) (by kernel_rfl) rfl (by kernel_rfl) (by kernel_rfl) (by kernel_rfl) (fun _ _ _ h => h) rfl rfl hq0 (fun w' hw => by obtain ⟨m0, m2, m3, m4, m6, m7, m8, m9⟩ := hw.st; go_simp) ?_
  simp only [Act.put, List.setIfInBounds_toArray, List.set_cons_zero, List.set_cons_succ]
  refine wpAnyE_take (i := 12) 19 (.pointer (some ⟨sb, 0, none⟩)) (by kernel_rfl) rfl (by kernel_rfl) (by kernel_rfl) (by kernel_rfl) (fun _ _ _ h => h) rfl rfl hq0 (fun w' hw => by obtain ⟨m0, m2, m3, m4, m6, m7, m8, m9⟩ := hw.st; go_simp) ?_
  simp only [Act.put, List.setIfInBounds_toArray, List.set_cons_zero, List.set_cons_succ]
  refine wpAnyE_take (i := 13) 20 (.pointer (some ⟨sb, 0, none⟩)) (by kernel_rfl) rfl (by kernel_rfl) (by kernel_rfl) (by kernel_rfl) (fun _ _ _ h => h) rfl rfl hq0 (fun w' hw => by obtain ⟨m0, m2, m3, m4, m6, m7, m8, m9⟩ := hw.st; go_simp) ?_
  simp only [Act.put, List.setIfInBounds_toArray, List.set_cons_zero, List.set_cons_succ]
  refine wpAnyE_take (i := 14) 21 (.pointer (some ⟨sb, 6, none⟩)) (by kernel_rfl) rfl (by kernel_rfl) (by kernel_rfl) (by kernel_rfl) (fun _ _ _ h => h) rfl rfl hq0 (fun w' hw => by obtain ⟨m0, m2, m3, m4, m6, m7, m8, m9⟩ := hw.st; go_simp) ?_
  simp only [Act.put, List.setIfInBounds_toArray, List.set_cons_zero, List.set_cons_succ]
  refine wpAnyE_take (i := 15) 22 (.slice (some ⟨ta, 0, none⟩) 1 tc) (by kernel_rfl) rfl (by kernel_rfl) (by kernel_rfl) (by kernel_rfl) (fun _ _ _ h => h) rfl rfl hq0 (fun w' hw => by obtain ⟨m0, m2, m3, m4, m6, m7, m8, m9⟩ := hw.st; go_simp) ?_
  simp only [Act.put, List.setIfInBounds_toArray, List.set_cons_zero, List.set_cons_succ]
  refine wpAnyE_take (i := 16) 23 (.pointer (some ⟨ta, 0, none⟩)) (by kernel_rfl) rfl (by kernel_rfl) (by kernel_rfl) (by kernel_rfl) (fun _ _ _ h => h) rfl rfl hq0 (fun w' hw => by obtain ⟨m0, m2, m3, m4, m6, m7, m8, m9⟩ := hw.st; go_simp) ?_
  simp only [Act.put, List.setIfInBounds_toArray, List.set_cons_zero, List.set_cons_succ]
  refine wpAnyE_take (i := 17) 24 (.int .i64 3) (by kernel_rfl) rfl (by kernel_rfl) (by kernel_rfl) (by kernel_rfl) (fun _ _ _ h => h) rfl rfl hq0 (fun w' hw => by obtain ⟨m0, m2, m3, m4, m6, m7, m8, m9⟩ := hw.st; go_simp) ?_
  simp only [Act.put, List.setIfInBounds_toArray, List.set_cons_zero, List.set_cons_succ]
  refine wpAnyE_take (i := 18) 25 (.agg #[.int .i64 n, .int .i64 1, .int .i64 1, .int .i64 3, .slice none 0 0]) (by kernel_rfl) rfl (by kernel_rfl) (by kernel_rfl) (by kernel_rfl) (fun _ _ _ h => h) rfl rfl hq0 (fun w' hw => by obtain ⟨m0, m2, m3, m4, m6, m7, m8, m9⟩ := hw.st; go_simp) ?_
  simp only [Act.put, List.setIfInBounds_toArray, List.set_cons_zero, List.set_cons_succ]
  refine wpAnyE_one (i := 19) (by kernel_rfl) rfl rfl (fun K2 hK2 => ?_)
  go_simp
  obtain ⟨Y, hY⟩ : ∃ Y, Hid (W0.heap.size = Y) := ⟨_, rfl⟩
  obtain ⟨Wa, HWa⟩ : ∃ Wa, Hid (Wa = (W0.alloc (.cells #[.int .i64 0, .int .i64 0, .int .i64 0, .int .i64 0, .slice none 0 0] 87)).drew) := ⟨_, rfl⟩
  have hYa : Wa.heap[Y]? = some (.cells #[.int .i64 0, .int .i64 0, .int .i64 0, .int .i64 0, .slice none 0 0] 87 (0, 0)) := by rw [HWa.out, ← hY.out]; exact heap_alloc_new _ _
  have hba : Below Y W0 Wa := by rw [HWa.out, ← hY.out]; exact (belowA _ _).drew
  have hwY : w.heap.size < Y := by rw [← hY.out]; exact (Array.getElem?_eq_some_iff.1 hR0).1
  have hRa := (hba.block _ hwY).trans hR0
  have hwa : Below w.heap.size w Wa := hb0.trans (hba.mono (Nat.le_of_lt hwY))
  rw [← HWa.out, hY.out]
  clear HWa hY hba hR0 hb0
  refine hK2 _ _ (fun _ => HC.out _ hwa) ?_
  clear hK2 K2 hq0
  have a0 : Wa.cell? ⟨Y, 0, none⟩ = some (.int .i64 0) := by simp [World.cell?, hYa]
  have af0 : Wa.frozen? ⟨Y, 0, none⟩ = false := frozen_of_row Wa Y _ _ _ hYa
  have a1 : Wa.cell? ⟨Y, 1, none⟩ = some (.int .i64 0) := by simp [World.cell?, hYa]
  have af1 : Wa.frozen? ⟨Y, 1, none⟩ = false := frozen_of_row Wa Y _ _ _ hYa
  have a2 : Wa.cell? ⟨Y, 2, none⟩ = some (.int .i64 0) := by simp [World.cell?, hYa]
  have af2 : Wa.frozen? ⟨Y, 2, none⟩ = false := frozen_of_row Wa Y _ _ _ hYa
  have a3 : Wa.cell? ⟨Y, 3, none⟩ = some (.int .i64 0) := by simp [World.cell?, hYa]
  have af3 : Wa.frozen? ⟨Y, 3, none⟩ = false := frozen_of_row Wa Y _ _ _ hYa
  have a4 : Wa.cell? ⟨Y, 4, none⟩ = some (.slice none 0 0) := by simp [World.cell?, hYa]
  have af4 : Wa.frozen? ⟨Y, 4, none⟩ = false := frozen_of_row Wa Y _ _ _ hYa
  obtain ⟨W1, HW1⟩ : ∃ W1, Hid (W1 = (((((Wa).setCell ⟨Y, 0, none⟩ (.int .i64 n)).setCell ⟨Y, 1, none⟩ (.int .i64 1)).setCell ⟨Y, 2, none⟩ (.int .i64 1)).setCell ⟨Y, 3, none⟩ (.int .i64 3)).setCell ⟨Y, 4, none⟩ (.slice none 0 0)) := ⟨_, rfl⟩
  have hY1 : W1.heap[Y]? = some (.cells #[.int .i64 n, .int .i64 1, .int .i64 1, .int .i64 3, .slice none 0 0] 87 (0, 0)) := by
    rw [HW1.out]
    have q0 := heap_setCell_same (Wa) Y 0 _ _ (.int .i64 n) hYa
    have q1 := heap_setCell_same ((Wa).setCell ⟨Y, 0, none⟩ (.int .i64 n)) Y 1 _ _ (.int .i64 1) q0
    have q2 := heap_setCell_same (((Wa).setCell ⟨Y, 0, none⟩ (.int .i64 n)).setCell ⟨Y, 1, none⟩ (.int .i64 1)) Y 2 _ _ (.int .i64 1) q1
    have q3 := heap_setCell_same ((((Wa).setCell ⟨Y, 0, none⟩ (.int .i64 n)).setCell ⟨Y, 1, none⟩ (.int .i64 1)).setCell ⟨Y, 2, none⟩ (.int .i64 1)) Y 3 _ _ (.int .i64 3) q2
    have q4 := heap_setCell_same (((((Wa).setCell ⟨Y, 0, none⟩ (.int .i64 n)).setCell ⟨Y, 1, none⟩ (.int .i64 1)).setCell ⟨Y, 2, none⟩ (.int .i64 1)).setCell ⟨Y, 3, none⟩ (.int .i64 3)) Y 4 _ _ (.slice none 0 0) q3
    simpa using q4
  have hb1 : Below Y Wa W1 := by
    rw [HW1.out]
    exact ((((((Below.refl Y Wa).setCell (p := ⟨Y, 0, none⟩) (Nat.le_refl _) _).setCell (p := ⟨Y, 1, none⟩) (Nat.le_refl _) _).setCell (p := ⟨Y, 2, none⟩) (Nat.le_refl _) _).setCell (p := ⟨Y, 3, none⟩) (Nat.le_refl _) _).setCell (p := ⟨Y, 4, none⟩) (Nat.le_refl _) _)
  have hw1 : Below w.heap.size w W1 := hwa.trans (hb1.mono (Nat.le_of_lt hwY))
  have hR1 := (hb1.block _ hwY).trans hRa
  refine wpAnyE_one (i := 20) (by kernel_rfl) rfl rfl (fun K2 hK2 => ?_)
  go_simp
  rw [← HW1.out]
  refine hK2 _ _ (fun hne => absurd rfl hne) ?_
  clear hK2 K2 HW1 a0 a1 a2 a3 a4 af0 af1 af2 af3 af4 hYa hRa hb1 hwa
  refine wpAnyE_done (by kernel_rfl) ?_ _
  go_wp2_with fail
  go_loopw [4] (fun i wr => Below w.heap.size w wr ∧ wr.heap[w.heap.size]? = some (.cells #[.int .i64 0, .int .i64 0, .slice none 0 0] 50 (0, 0)) ∧ ((i = .int .i64 0 ∧ wr.heap[Y]? = some (.cells #[.int .i64 n, .int .i64 1, .int .i64 1, .int .i64 3, .slice none 0 0] 87 (0, 0))) ∨ (i = .int .i64 1 ∧ ∃ g gc, Y < g ∧ wr.heap[Y]? = some (.cells #[.int .i64 n, .int .i64 1, .int .i64 1, .int .i64 3, .slice (some ⟨g, 0, none⟩) 1 gc] 87 (0, 0)) ∧ wr.cell? ⟨g, 0, none⟩ = some (.int .i64 0) ∧ wr.cell? ⟨g, 1, none⟩ = some (.int .i64 2)))) (fun i _ => 1 - (intOf i).toNat)
  case atStart => exact ⟨hw1, hR1, .inl ⟨rfl, hY1⟩⟩
  case round =>
    obtain ⟨hbw, hRr, ⟨rfl, hYr⟩ | ⟨rfl, g, gc, hgY, hYr, g0, g1⟩⟩ := hrel
    · have hlt : Y < wr.heap.size := (Array.getElem?_eq_some_iff.1 hYr).1
      have y4 : wr.cell? ⟨Y, 4, none⟩ = some (.slice none 0 0) := by simp [World.cell?, hYr]
      have hq0 : (SuS n sb ra rc ta tc wr.drew ∧ wr.drew.cell? ⟨Y, 4, none⟩ = some (.slice none 0 0)) := ⟨HC.out _ hbw.drew, y4⟩
      obtain ⟨m0, m2, m3, m4, m6, m7, m8, m9⟩ := (HC.out _ hbw).st
      go_wp2_with fail
      clear m0 m2 m3 m4 m6 m7 m8 m9
      refine wp_region_E (fun w' => SuS n sb ra rc ta tc w' ∧ w'.cell? ⟨Y, 4, none⟩ = some (.slice none 0 0)) 12 (by kernel_rfl) ?_
      refine wpAnyE_take (i := 0) 35 (.pointer (some ⟨Y, 4, none⟩)) (by kernel_rfl) rfl (by kernel_rfl) (by kernel_rfl) (by kernel_rfl) (fun _ _ _ h => h) rfl rfl hq0 (fun w' hw => by obtain ⟨m0, m2, m3, m4, m6, m7, m8, m9⟩ := hw.1.st; have n4 := hw.2; go_simp) ?_
      simp only [Act.put, List.setIfInBounds_toArray, List.set_cons_zero, List.set_cons_succ]
      refine wpAnyE_take (i := 1) 36 (.slice none 0 0) (by kernel_rfl) rfl (by kernel_rfl) (by kernel_rfl) (by kernel_rfl) (fun _ _ _ h => h) rfl rfl hq0 (fun w' hw => by obtain ⟨m0, m2, m3, m4, m6, m7, m8, m9⟩ := hw.1.st; have n4 := hw.2; go_simp) ?_
      simp only [Act.put, List.setIfInBounds_toArray, List.set_cons_zero, List.set_cons_succ]
      refine wpAnyE_take (i := 2) 37 (.pointer (some ⟨sb, 0, none⟩)) (by kernel_rfl) rfl (by kernel_rfl) (by kernel_rfl) (by kernel_rfl) (fun _ _ _ h => h) rfl rfl hq0 (fun w' hw => by obtain ⟨m0, m2, m3, m4, m6, m7, m8, m9⟩ := hw.1.st; have n4 := hw.2; go_simp) ?_
      simp only [Act.put, List.setIfInBounds_toArray, List.set_cons_zero, List.set_cons_succ]
      refine wpAnyE_take (i := 3) 38 (.pointer (some ⟨sb, 0, none⟩)) (by kernel_rfl) rfl (by kernel_rfl) (by kernel_rfl) (by kernel_rfl) (fun _ _ _ h => h) rfl rfl hq0 (fun w' hw => by obtain ⟨m0, m2, m3, m4, m6, m7, m8, m9⟩ := hw.1.st; have n4 := hw.2; go_simp) ?_
      simp only [Act.put, List.setIfInBounds_toArray, List.set_cons_zero, List.set_cons_succ]
      refine wpAnyE_take (i := 4) 39 (.pointer (some ⟨sb, 2, none⟩)) (by kernel_rfl) rfl (by kernel_rfl) (by kernel_rfl) (by kernel_rfl) (fun _ _ _ h => h) rfl rfl hq0 (fun w' hw => by obtain ⟨m0, m2, m3, m4, m6, m7, m8, m9⟩ := hw.1.st; have n4 := hw.2; go_simp) ?_
      simp only [Act.put, List.setIfInBounds_toArray, List.set_cons_zero, List.set_cons_succ]
      refine wpAnyE_take (i := 5) 40 (.slice (some ⟨ra, 0, none⟩) 1 rc) (by kernel_rfl) rfl (by kernel_rfl) (by kernel_rfl) (by kernel_rfl) (fun _ _ _ h => h) rfl rfl hq0 (fun w' hw => by obtain ⟨m0, m2, m3, m4, m6, m7, m8, m9⟩ := hw.1.st; have n4 := hw.2; go_simp) ?_
      simp only [Act.put, List.setIfInBounds_toArray, List.set_cons_zero, List.set_cons_succ]
      refine wpAnyE_take (i := 6) 41 (.int .i64 0) (by kernel_rfl) rfl (by kernel_rfl) (by kernel_rfl) (by kernel_rfl) (fun _ _ _ h => h) rfl rfl hq0 (fun w' hw => by obtain ⟨m0, m2, m3, m4, m6, m7, m8, m9⟩ := hw.1.st; have n4 := hw.2; go_simp) ?_
      simp only [Act.put, List.setIfInBounds_toArray, List.set_cons_zero, List.set_cons_succ]
      refine wpAnyE_take (i := 7) 42 (.pointer (some ⟨ra, 0, none⟩)) (by kernel_rfl) rfl (by kernel_rfl) (by kernel_rfl) (by kernel_rfl) (fun _ _ _ h => h) rfl rfl hq0 (fun w' hw => by obtain ⟨m0, m2, m3, m4, m6, m7, m8, m9⟩ := hw.1.st; have n4 := hw.2; go_simp) ?_
      simp only [Act.put, List.setIfInBounds_toArray, List.set_cons_zero, List.set_cons_succ]
      refine wpAnyE_take (i := 8) 43 (.agg #[.int .i64 0, .int .i64 2]) (by kernel_rfl) rfl (by kernel_rfl) (by kernel_rfl) (by kernel_rfl) (fun _ _ _ h => h) rfl rfl hq0 (fun w' hw => by obtain ⟨m0, m2, m3, m4, m6, m7, m8, m9⟩ := hw.1.st; have n4 := hw.2; go_simp) ?_
      simp only [Act.put, List.setIfInBounds_toArray, List.set_cons_zero, List.set_cons_succ]
      refine wpAnyE_one (i := 9) (by kernel_rfl) rfl rfl (fun K2 hK2 => ?_)
      go_simp
      obtain ⟨Wb, HWb⟩ : ∃ Wb, Hid (Wb = (wr.alloc (.cells #[.int .i64 0, .int .i64 2] 68)).drew) := ⟨_, rfl⟩
      have hbb : Below wr.heap.size wr Wb := by rw [HWb.out]; exact (belowA _ _).drew
      have hnw : Wb.heap[wr.heap.size]? = some (.cells #[.int .i64 0, .int .i64 2] 68 (0, 0)) := by rw [HWb.out]; exact heap_alloc_new _ _
      have hYb := (hbb.block Y hlt).trans hYr
      have hRb := (hbb.block _ (Nat.lt_trans hwY hlt)).trans hRr
      have hwb : Below w.heap.size w Wb := hbw.trans (hbb.mono hbw.size)
      rw [← HWb.out]
      clear HWb
      refine hK2 _ _ (fun _ => ⟨HC.out _ hwb, by simp [World.cell?, hYb]⟩) ?_
      clear hK2 K2
      refine wpAnyE_one (i := 10) (by kernel_rfl) rfl rfl (fun K2 hK2 => ?_)
      have hlb : Y + 1 ≤ Wb.heap.size := Nat.le_trans hlt hbb.size
      refine wp_appendT _ _ 43 68 _ 2 16 Tryz.underlying43 infoRoot rfl (by decide) rfl (base := Y + 1) (World.ownsRow_nil _ _ _ _) rfl ⟨wr.heap.size, 0, none⟩ 1 1 rfl [.int .i64 0, .int .i64 2] rfl ?_ (fun u hm => List.all_eq_true.1 (show ([.int .i64 0, .int .i64 2] : List Value).all (·.oneCell') = true from rfl) u hm) (by omega) (by omega) hlb ?_
      · intro j u hj
        rw [Addr.add_mid, Nat.zero_add]
        simpa [World.cell?, hnw] using hj
      intro v' w3 hown3 hns3 hbl3
      rcases hown3.2 with ⟨_, e0⟩ | ⟨g, gc, cur, hv, hgB, hG, hcn, _, hcs, hct⟩
      · omega
      subst hv
      have hY3 := hns3.cells hYb (by decide)
      have hR3 := hns3.cells hRb (by decide)
      have hw3 : Below w.heap.size w w3 := hwb.trans (hbl3.mono (by omega))
      have hct' : cur.toList.take 2 = [.int .i64 0, .int .i64 2] := hct
      have e0 : cur[0]? = some (.int .i64 0) := by
        have h := congrArg (fun l => l[0]?) hct'; simpa using h
      have e1 : cur[1]? = some (.int .i64 2) := by
        have h := congrArg (fun l => l[1]?) hct'; simpa using h
      have hgne : Y ≠ g := by omega
      clear hown3 hct hct'
      show K2 (Act.put _ (some 45) _) w3
      have hq3 : (SuS n sb ra rc ta tc w3 ∧ w3.cell? ⟨Y, 4, none⟩ = some (.slice none 0 0)) := ⟨HC.out _ hw3, by simp [World.cell?, hY3]⟩
      refine hK2 _ _ (fun _ => hq3) ?_
      clear hK2 K2
      simp only [Act.put, List.setIfInBounds_toArray, List.set_cons_zero, List.set_cons_succ]
      refine wpAnyE_take (i := 11) 46 (.pointer (some ⟨Y, 4, none⟩)) (by kernel_rfl) rfl (by kernel_rfl) (by kernel_rfl) (by kernel_rfl) (fun _ _ _ h => h) rfl rfl hq3 (fun w' hw => by obtain ⟨m0, m2, m3, m4, m6, m7, m8, m9⟩ := hw.1.st; have n4 := hw.2; go_simp) ?_
      simp only [Act.put, List.setIfInBounds_toArray, List.set_cons_zero, List.set_cons_succ]
      have z4 : w3.cell? ⟨Y, 4, none⟩ = some (.slice none 0 0) := hq3.2
      have zf : w3.frozen? ⟨Y, 4, none⟩ = false := frozen_of_row w3 Y _ _ _ hY3
      refine wpAnyE_one (i := 12) (by kernel_rfl) rfl rfl (fun K2 hK2 => ?_)
      go_simp
      refine hK2 _ _ (fun hne => absurd rfl hne) ?_
      clear hK2 K2
      refine wpAnyE_done (by kernel_rfl) ?_ _
      obtain ⟨W4, HW4⟩ : ∃ W4, Hid (W4 = w3.setCell ⟨Y, 4, none⟩ (.slice (some ⟨g, 0, none⟩) 1 gc)) := ⟨_, rfl⟩
      have hY4 : W4.heap[Y]? = some (.cells #[.int .i64 n, .int .i64 1, .int .i64 1, .int .i64 3, .slice (some ⟨g, 0, none⟩) 1 gc] 87 (0, 0)) := by rw [HW4.out]; simpa using heap_setCell_same w3 Y 4 _ _ (.slice (some ⟨g, 0, none⟩) 1 gc) hY3
      have hG4 : W4.heap[g]? = some (.cells cur 68 (0, 0)) := by rw [HW4.out]; exact (Below.heap_setCell _ ⟨Y, 4, none⟩ _ g (Ne.symm hgne)).trans hG
      have hR4 : W4.heap[w.heap.size]? = some (.cells #[.int .i64 0, .int .i64 0, .slice none 0 0] 50 (0, 0)) := by rw [HW4.out]; exact (Below.heap_setCell _ ⟨Y, 4, none⟩ _ w.heap.size (Nat.ne_of_lt hwY)).trans hR3
      have hw4 : Below w.heap.size w W4 := by rw [HW4.out]; exact hw3.setCell (p := ⟨Y, 4, none⟩) (Nat.le_of_lt hwY) _
      have d0 : W4.cell? ⟨g, 0, none⟩ = some (.int .i64 0) := by simp [World.cell?, hG4, e0]
      have d1 : W4.cell? ⟨g, 1, none⟩ = some (.int .i64 2) := by simp [World.cell?, hG4, e1]
      rw [← HW4.out]
      clear z4 zf hq3 hY3 hR3 HW4
      go_wp2
      go_roundw
      case rel => exact ⟨hw4, hR4, .inr ⟨by go_num, g, gc, by omega, hY4, d0, d1⟩⟩
      case measure => simp [intOf]
    · obtain ⟨m0, m2, m3, m4, m6, m7, m8, m9⟩ := (HC.out _ hbw).st
      have y0 : wr.cell? ⟨Y, 0, none⟩ = some (.int .i64 n) := by simp [World.cell?, hYr]
      have y1 : wr.cell? ⟨Y, 1, none⟩ = some (.int .i64 1) := by simp [World.cell?, hYr]
      have y2 : wr.cell? ⟨Y, 2, none⟩ = some (.int .i64 1) := by simp [World.cell?, hYr]
      have y3 : wr.cell? ⟨Y, 3, none⟩ = some (.int .i64 3) := by simp [World.cell?, hYr]
      have y4 : wr.cell? ⟨Y, 4, none⟩ = some (.slice (some ⟨g, 0, none⟩) 1 gc) := by simp [World.cell?, hYr]
      go_wp2_with fail
      refine (specEncSup n ⟨by omega, by omega⟩ g gc _ g0 g1).mono ?_
      rintro e w3 ⟨u, rfl, hD, hb3⟩
      have hl : (slL (su6 (n : Int))).length = 128 := slL_length (suL_length _)
      obtain ⟨ua, uc, hu⟩ := hD.shape
      rw [hl] at hu
      subst hu
      have hw3 : Below w.heap.size w w3 := hbw.trans (hb3.mono hbw.size)
      have hR3 := (hb3.block _ (Array.getElem?_eq_some_iff.1 hRr).1).trans hRr
      clear m0 m2 m3 m4 m6 m7 m8 m9 y0 y1 y2 y3 y4 hl
      have p4 := (HC.out _ hw3).st.2.2.2.1
      have b0 : w3.cell? ⟨w.heap.size, 0, none⟩ = some (.int .i64 0) := by simp [World.cell?, hR3]
      have bf0 : w3.frozen? ⟨w.heap.size, 0, none⟩ = false := frozen_of_row w3 w.heap.size _ _ _ hR3
      have b1 : w3.cell? ⟨w.heap.size, 1, none⟩ = some (.int .i64 0) := by simp [World.cell?, hR3]
      have bf1 : w3.frozen? ⟨w.heap.size, 1, none⟩ = false := frozen_of_row w3 w.heap.size _ _ _ hR3
      have b2 : w3.cell? ⟨w.heap.size, 2, none⟩ = some (.slice none 0 0) := by simp [World.cell?, hR3]
      have bf2 : w3.frozen? ⟨w.heap.size, 2, none⟩ = false := frozen_of_row w3 w.heap.size _ _ _ hR3
      obtain ⟨W5, HW5⟩ : ∃ W5, Hid (W5 = ((w3.setCell ⟨w.heap.size, 0, none⟩ (.int .i64 1)).setCell ⟨w.heap.size, 1, none⟩ (.int .i64 1)).setCell ⟨w.heap.size, 2, none⟩ (.slice ua 128 uc)) := ⟨_, rfl⟩
      have hR5 : W5.heap[w.heap.size]? = some (.cells #[.int .i64 1, .int .i64 1, .slice ua 128 uc] 50 (0, 0)) := by
        rw [HW5.out]
        have q0 := heap_setCell_same w3 w.heap.size 0 _ _ (.int .i64 1) hR3
        have q1 := heap_setCell_same _ w.heap.size 1 _ _ (.int .i64 1) q0
        have q2 := heap_setCell_same _ w.heap.size 2 _ _ (.slice ua 128 uc) q1
        simpa using q2
      have hw5 : Below w.heap.size w W5 := by rw [HW5.out]; exact ((hw3.setCell (p := ⟨w.heap.size, 0, none⟩) (Nat.le_refl _) _).setCell (p := ⟨w.heap.size, 1, none⟩) (Nat.le_refl _) _).setCell (p := ⟨w.heap.size, 2, none⟩) (Nat.le_refl _) _
      have hlw : w.heap.size < wr.heap.size := (Array.getElem?_eq_some_iff.1 hRr).1
      have hD5 : Row8 w.heap.size W5 (.slice ua 128 uc) (slL (su6 n)) := by
        rw [HW5.out]
        exact (((hD.setAhead ⟨w.heap.size, 0, none⟩ hlw _).setAhead ⟨w.heap.size, 1, none⟩ hlw _).setAhead ⟨w.heap.size, 2, none⟩ hlw _).lower (Nat.le_of_lt hlw)
      have o0 : W5.cell? ⟨w.heap.size, 0, none⟩ = some (.int .i64 1) := by simp [World.cell?, hR5]
      have o1 : W5.cell? ⟨w.heap.size, 1, none⟩ = some (.int .i64 1) := by simp [World.cell?, hR5]
      have o2 : W5.cell? ⟨w.heap.size, 2, none⟩ = some (.slice ua 128 uc) := by simp [World.cell?, hR5]
      go_wp2_with fail
      rw [← HW5.out]
      exact bodyPost_ret (v := .agg #[.int .i64 1, .int .i64 1, .slice ua 128 uc]) (by simp [results, Tryz.results22, go_sem, o0, o1, o2]) rfl ⟨ua, uc, rfl, hD5, hw5⟩

end Go.Proofs.YtpjdhfbeofdplaaGreatDoor
