import Derived.Test.YtfbjagjgofdheaaGreatDoorQb
namespace Go.Proofs.YtfbjagjgofdheaaGreatDoor
open Go.RowKit
set_option linter.unusedVariables false

theorem kLt_geq {a b : ByteArray} (h : kLt a b) : (!Op.bytesLess a.toList b.toList) = false := by unfold kLt at h; rw [h]; rfl
theorem kLt_not {a b : ByteArray} (h : ¬ kLt a b) : (!Op.bytesLess a.toList b.toList) = true := by
  unfold kLt at h
  cases hb : Op.bytesLess a.toList b.toList
  · rfl
  · exact absurd hb h

theorem tl_ne {y : ByteArray} (h : ¬ y = ByteArray.empty) : (y.toList == []) = false := by
  rw [ByteArray.toList_eq]
  refine beq_eq_false_iff_ne.2 fun e => h ?_
  cases y
  simp only [Array.toList_eq_nil_iff] at e
  subst e
  rfl

set_option maxRecDepth 100000 in
set_option maxHeartbeats 8000000 in
theorem l2NodeOK_any (kd : Int) (a : Option Addr) (c : Nat) (es : List E3) (w : World) (hv : NRead w (.slice a es.length c) es) (hn : es.length ≤ 1048576) :
    Calls Tryz.prog 38 #[.agg #[.int .i64 kd, .slice a es.length c]] w fun e w' => Below w.heap.size w w' ∧ ((nodeOK kd es ∧ e = .returned (.bool true)) ∨ (¬ nodeOK kd es ∧ e = .returned (.bool false))) := by
  obtain ⟨_, _, he, hc⟩ := hv
  simp only [Value.slice.injEq, true_and] at he
  obtain ⟨rfl, rfl⟩ := he
  obtain ⟨W0, HW0⟩ : ∃ W0, Hid (W0 = w.alloc (.cells #[.int .i64 kd, .slice a es.length c] 25)) := ⟨_, rfl⟩
  have hb0 : Below w.heap.size w W0 := by rw [HW0.out]; exact belowA _ _
  have hX : W0.heap[w.heap.size]? = some (.cells #[.int .i64 kd, .slice a es.length c] 25 (0, 0)) := by rw [HW0.out]; exact heap_alloc_new w _
  have hs0 : w.heap.size < W0.heap.size := (Array.getElem?_eq_some_iff.1 hX).1
  obtain ⟨x0, x1, -, -⟩ := row2 hX
  have HNO : Hid (nodeOK kd es → ((kd = 1 ∧ es.length ≤ 5) ∨ (kd = 2 ∧ 2 ≤ es.length ∧ es.length ≤ 5))) := fun h => h.1
  have HB0 : Hid (Below w.heap.size w W0) := hb0
  clear hb0
  go_enter Tryz.func38, Tryz.ntmps38
  go_upto_region 1 with fail
  rw [← HW0.out]
  by_cases hk : kd = 1 ∨ kd = 2
  case neg =>
    have n1 : (kd != 1) = true := by simp; omega
    have n2 : (kd != 2) = true := by simp; omega
    go_wp2
    go_ret
    exact ⟨HB0.out, .inr ⟨fun h => by have := HNO.out h; omega, rfl⟩⟩
  by_cases h5 : (5 : Int) < (es.length : Int)
  case pos =>
    have HK : Hid (kd = 1 ∨ kd = 2) := hk
    clear hk
    rcases HK.out with e1 | e1
    all_goals
      have n1 : Hid (kd = kd) := rfl
      subst e1
      go_wp2
      go_ret
      exact ⟨HB0.out, .inr ⟨fun h => by have := HNO.out h; omega, rfl⟩⟩
  by_cases h2 : kd = 2 ∧ (es.length : Int) < 2
  case pos =>
    obtain ⟨rfl, h2⟩ := h2
    go_wp2
    go_ret
    exact ⟨HB0.out, .inr ⟨fun h => by have := HNO.out h; omega, rfl⟩⟩
  have HFS : Hid ((kd = 1 ∧ es.length ≤ 5) ∨ (kd = 2 ∧ 2 ≤ es.length ∧ es.length ≤ 5)) := by
    rcases hk with e | e
    · exact .inl ⟨e, by omega⟩
    · exact .inr ⟨e, by omega, by omega⟩
  have hl5 : es.length ≤ 5 := by omega
  have hl2 : kd = 2 → ¬ (es.length : Int) < 2 := fun e => by omega
  clear h2
  have HC : Hid (0 < es.length → ∃ b off, a = some ⟨b, off, none⟩ ∧ ∀ i, i < es.length → w.cell? ⟨b, off + i * 3, none⟩ = some (.string (es.getD i e0).1) ∧ w.cell? ⟨b, off + i * 3 + 1, none⟩ = some (.string (es.getD i e0).2.1) ∧ w.cell? ⟨b, off + i * 3 + 2, none⟩ = some (.int .i64 (es.getD i e0).2.2)) := hc
  clear hc HNO HW0
  have HX : Hid _ := hX
  clear hX
  rcases hk with rfl | rfl
  · have HKK : Hid (∀ i, i < es.length → (keyOK es i ∧ leafE (es.getD i e0) ↔ keyOK es i ∧ entOK 1 (es.getD i e0))) := fun i hi => ⟨fun h => ⟨h.1, .inl ⟨rfl, h.2⟩⟩, fun h => ⟨h.1, by
      rcases h.2 with q | q
      · exact q.2
      · exact absurd q.1 (by decide)⟩⟩
    clear hl2
    go_wp2
    clear x0 x1
    go_loopw [4] (fun i wr => ∃ k : Nat, k ≤ es.length ∧ i = .int .i64 k ∧ Below W0.heap.size W0 wr ∧ ∀ j, j < k → keyOK es j ∧ leafE (es.getD j e0)) (fun i _ => es.length - (intOf i).toNat)
    case atStart => exact ⟨0, by omega, rfl, Below.refl _ _, fun j hj => by omega⟩
    case round =>
      obtain ⟨k, hk, rfl, hb, hall⟩ := hrel
      have HA : Hid (∀ j, j < k → keyOK es j ∧ leafE (es.getD j e0)) := hall
      clear hall
      obtain ⟨g0, g1, -, -⟩ := row2 ((hb.block _ hs0).trans HX.out)
      have HB : Hid (Below w.heap.size w wr) := HB0.out.trans (hb.mono HB0.out.size)
      by_cases hlt : k < es.length
      · obtain ⟨b, off, rfl, hcell⟩ := HC.out (by omega)
        obtain ⟨c0, c1, c2⟩ := hcell k hlt
        have hbl : b < w.heap.size := World.block_lt_of_cell? _ _ c0
        rw [← HB.out.cell (p := ⟨b, off + k * 3, none⟩) hbl] at c0
        rw [← HB.out.cell (p := ⟨b, off + k * 3 + 1, none⟩) hbl] at c1
        rw [← HB.out.cell (p := ⟨b, off + k * 3 + 2, none⟩) hbl] at c2
        have hki : (k : Int) < (es.length : Int) := by omega
        have hsr : w.heap.size < wr.heap.size := Nat.lt_of_lt_of_le hs0 hb.size
        have hbr : b < wr.heap.size := Nat.lt_trans hbl hsr
        have hb2 := fun o => hb.trans ((belowA wr o).mono hb.size)
        have HB2 := fun o => HB.out.trans ((belowA wr o).mono HB.out.size)
        have HNO : Hid (nodeOK 1 es → keyOK es k ∧ leafE (es.getD k e0)) := fun h => (HKK.out k hlt).2 (h.2 k hlt)
        by_cases h0 : k = 0
        case pos =>
          subst h0
          have HRT : Hid (keyOK es 0 ∧ leafE (es.getD 0 e0) ↔ (es.getD 0 e0).1.size ≤ 12 ∧ ((es.getD 0 e0).2.1.size ≤ 10 ∧ (es.getD 0 e0).2.2 = 0)) := ⟨fun h => ⟨h.1.1, h.2⟩, fun h => ⟨⟨h.1, fun q => absurd q (by omega)⟩, h.2⟩⟩
          simp only [Nat.zero_mul, Nat.add_zero] at c0 c1 c2
          generalize (es.getD 0 e0).1 = x at *
          generalize (es.getD 0 e0).2.1 = y at *
          generalize (es.getD 0 e0).2.2 = z at *
          have HBX : Hid (Below W0.heap.size W0 (wr.alloc (.cells #[.string x, .string y, .int .i64 z] 52))) := hb2 _
          have HBY : Hid (Below w.heap.size w (wr.alloc (.cells #[.string x, .string y, .int .i64 z] 52))) := HB2 _
          have r0 : (wr.alloc (.cells #[.string x, .string y, .int .i64 z] 52)).cell? ⟨wr.heap.size, 0, none⟩ = some (.string x) := World.cell?_alloc_at _ _ _ _ rfl
          have r1 : (wr.alloc (.cells #[.string x, .string y, .int .i64 z] 52)).cell? ⟨wr.heap.size, 1, none⟩ = some (.string y) := World.cell?_alloc_at _ _ _ _ rfl
          have r2 : (wr.alloc (.cells #[.string x, .string y, .int .i64 z] 52)).cell? ⟨wr.heap.size, 2, none⟩ = some (.int .i64 z) := World.cell?_alloc_at _ _ _ _ rfl
          have r3 : (wr.alloc (.cells #[.string x, .string y, .int .i64 z] 52)).cell? ⟨w.heap.size, 0, none⟩ = some (.int .i64 1) := (World.cell?_alloc_lt _ _ ⟨w.heap.size, 0, none⟩ hsr).trans g0
          have r4 : (wr.alloc (.cells #[.string x, .string y, .int .i64 z] 52)).cell? ⟨w.heap.size, 1, none⟩ = some (.slice (some ⟨b, off, none⟩) es.length c) := (World.cell?_alloc_lt _ _ ⟨w.heap.size, 1, none⟩ hsr).trans g1
          go_wp2_with fail
          generalize wr.alloc (.cells #[.string x, .string y, .int .i64 z] 52) = X0 at *
          clear c0 c1 c2 g0 g1 hb2 HB2
          generalize wr.heap.size = rb at *
          by_cases q1 : (12 : Int) < (x.size : Int)
          case pos =>
            go_quiet (fail)
            go_wp2
            go_ret
            exact ⟨below_drewN HBY.out _, .inr ⟨fun h => by have := (HRT.out.1 (HNO.out h)).1; omega, rfl⟩⟩
          by_cases q2 : z = 0
          case neg =>
            have q2n : (z != 0) = true := by simp; exact q2
            go_quiet (fail)
            go_wp2
            go_ret
            exact ⟨below_drewN HBY.out _, .inr ⟨fun h => q2 (HRT.out.1 (HNO.out h)).2.2, rfl⟩⟩
          subst q2
          by_cases q3 : (10 : Int) < (y.size : Int)
          case pos =>
            go_quiet (fail)
            go_wp2
            go_ret
            exact ⟨below_drewN HBY.out _, .inr ⟨fun h => by have := (HRT.out.1 (HNO.out h)).2.1; omega, rfl⟩⟩
          have HOK : Hid (keyOK es 0 ∧ leafE (es.getD 0 e0)) := HRT.out.2 ⟨by omega, ⟨by omega, rfl⟩⟩
          go_quiet (fail)
          go_wp2
          go_roundw
          case rel => exact ⟨1, by omega, by go_num, below_drewN HBX.out _, fun j hj => by rw [show j = 0 by omega]; exact HOK.out⟩
          case measure => simp [intOf]; omega
        obtain ⟨d0, -, -⟩ := hcell (k - 1) (by omega)
        rw [← HB.out.cell (p := ⟨b, off + (k - 1) * 3, none⟩) hbl] at d0
        have hw1 : IntKind.i64.wrap ((k : Int) - 1) = ((k - 1 : Nat) : Int) := (IntWalk.i64_in _ ⟨by omega, by omega⟩).trans (by omega)
        have hi1 : ((k - 1 : Nat) : Int) < (es.length : Int) := by omega
        have hk0 : 0 < k := by omega
        have HRT : Hid (keyOK es k ∧ leafE (es.getD k e0) ↔ ((es.getD k e0).1.size ≤ 12 ∧ kLt (es.getD (k - 1) e0).1 (es.getD k e0).1) ∧ ((es.getD k e0).2.1.size ≤ 10 ∧ (es.getD k e0).2.2 = 0)) := ⟨fun h => ⟨⟨h.1.1, h.1.2 hk0⟩, h.2⟩, fun h => ⟨⟨h.1.1, fun _ => h.1.2⟩, h.2⟩⟩
        clear hcell
        generalize k - 1 = k1 at *
        generalize (es.getD k e0).1 = x at *
        generalize (es.getD k e0).2.1 = y at *
        generalize (es.getD k e0).2.2 = z at *
        generalize (es.getD k1 e0).1 = p1 at *
        have HBX : Hid (Below W0.heap.size W0 (wr.alloc (.cells #[.string x, .string y, .int .i64 z] 52))) := hb2 _
        have HBY : Hid (Below w.heap.size w (wr.alloc (.cells #[.string x, .string y, .int .i64 z] 52))) := HB2 _
        have r0 : (wr.alloc (.cells #[.string x, .string y, .int .i64 z] 52)).cell? ⟨wr.heap.size, 0, none⟩ = some (.string x) := World.cell?_alloc_at _ _ _ _ rfl
        have r1 : (wr.alloc (.cells #[.string x, .string y, .int .i64 z] 52)).cell? ⟨wr.heap.size, 1, none⟩ = some (.string y) := World.cell?_alloc_at _ _ _ _ rfl
        have r2 : (wr.alloc (.cells #[.string x, .string y, .int .i64 z] 52)).cell? ⟨wr.heap.size, 2, none⟩ = some (.int .i64 z) := World.cell?_alloc_at _ _ _ _ rfl
        have r3 : (wr.alloc (.cells #[.string x, .string y, .int .i64 z] 52)).cell? ⟨w.heap.size, 0, none⟩ = some (.int .i64 1) := (World.cell?_alloc_lt _ _ ⟨w.heap.size, 0, none⟩ hsr).trans g0
        have r4 : (wr.alloc (.cells #[.string x, .string y, .int .i64 z] 52)).cell? ⟨w.heap.size, 1, none⟩ = some (.slice (some ⟨b, off, none⟩) es.length c) := (World.cell?_alloc_lt _ _ ⟨w.heap.size, 1, none⟩ hsr).trans g1
        have rd : (wr.alloc (.cells #[.string x, .string y, .int .i64 z] 52)).cell? ⟨b, off + k1 * 3, none⟩ = some (.string p1) := (World.cell?_alloc_lt _ _ ⟨b, off + k1 * 3, none⟩ hbr).trans d0
        go_wp2_with fail
        generalize wr.alloc (.cells #[.string x, .string y, .int .i64 z] 52) = X0 at *
        clear c0 c1 c2 g0 g1 hb2 HB2 d0
        generalize wr.heap.size = rb at *
        by_cases q1 : (12 : Int) < (x.size : Int)
        case pos =>
          go_quiet (fail)
          go_wp2
          go_ret
          exact ⟨below_drewN HBY.out _, .inr ⟨fun h => by have := (HRT.out.1 (HNO.out h)).1.1; omega, rfl⟩⟩
        by_cases qk : kLt p1 x
        case neg =>
          have qn := kLt_not qk
          have QK : Hid (¬ kLt p1 x) := qk
          clear qk
          go_quiet (fail)
          go_wp2
          go_ret
          exact ⟨below_drewN HBY.out _, .inr ⟨fun h => QK.out (HRT.out.1 (HNO.out h)).1.2, rfl⟩⟩
        have QK : Hid (kLt p1 x) := qk
        have qn := kLt_geq qk
        clear qk
        by_cases q2 : z = 0
        case neg =>
          have q2n : (z != 0) = true := by simp; exact q2
          go_quiet (fail)
          go_wp2
          go_ret
          exact ⟨below_drewN HBY.out _, .inr ⟨fun h => q2 (HRT.out.1 (HNO.out h)).2.2, rfl⟩⟩
        subst q2
        by_cases q3 : (10 : Int) < (y.size : Int)
        case pos =>
          go_quiet (fail)
          go_wp2
          go_ret
          exact ⟨below_drewN HBY.out _, .inr ⟨fun h => by have := (HRT.out.1 (HNO.out h)).2.1; omega, rfl⟩⟩
        have HOK : Hid (keyOK es k ∧ leafE (es.getD k e0)) := HRT.out.2 ⟨⟨by omega, QK.out⟩, ⟨by omega, rfl⟩⟩
        go_quiet (fail)
        go_wp2
        go_roundw
        case rel => exact ⟨k + 1, by omega, by go_num, below_drewN HBX.out _, fun j hj => by
          by_cases e : j = k
          · rw [e]; exact HOK.out
          · exact HA.out j (by omega)⟩
        case measure => simp [intOf]; omega
      · have hki : ¬ (k : Int) < (es.length : Int) := by omega
        have hke : k = es.length := by omega
        have HY : Hid (nodeOK 1 es) := ⟨.inl ⟨rfl, hl5⟩, fun i hi => (HKK.out i hi).1 (HA.out i (by omega))⟩
        clear hke
        go_wp2
        go_ret
        exact ⟨HB.out, .inl ⟨HY.out, rfl⟩⟩
  · have HKK : Hid (∀ i, i < es.length → (keyOK es i ∧ innE (es.getD i e0) ↔ keyOK es i ∧ entOK 2 (es.getD i e0))) := fun i hi => ⟨fun h => ⟨h.1, .inr ⟨rfl, h.2⟩⟩, fun h => ⟨h.1, by
      rcases h.2 with q | q
      · exact absurd q.1 (by decide)
      · exact q.2⟩⟩
    have hl2 := hl2 rfl
    go_wp2
    clear x0 x1
    go_loopw [4] (fun i wr => ∃ k : Nat, k ≤ es.length ∧ i = .int .i64 k ∧ Below W0.heap.size W0 wr ∧ ∀ j, j < k → keyOK es j ∧ innE (es.getD j e0)) (fun i _ => es.length - (intOf i).toNat)
    case atStart => exact ⟨0, by omega, rfl, Below.refl _ _, fun j hj => by omega⟩
    case round =>
      obtain ⟨k, hk, rfl, hb, hall⟩ := hrel
      have HA : Hid (∀ j, j < k → keyOK es j ∧ innE (es.getD j e0)) := hall
      clear hall
      obtain ⟨g0, g1, -, -⟩ := row2 ((hb.block _ hs0).trans HX.out)
      have HB : Hid (Below w.heap.size w wr) := HB0.out.trans (hb.mono HB0.out.size)
      by_cases hlt : k < es.length
      · obtain ⟨b, off, rfl, hcell⟩ := HC.out (by omega)
        obtain ⟨c0, c1, c2⟩ := hcell k hlt
        have hbl : b < w.heap.size := World.block_lt_of_cell? _ _ c0
        rw [← HB.out.cell (p := ⟨b, off + k * 3, none⟩) hbl] at c0
        rw [← HB.out.cell (p := ⟨b, off + k * 3 + 1, none⟩) hbl] at c1
        rw [← HB.out.cell (p := ⟨b, off + k * 3 + 2, none⟩) hbl] at c2
        have hki : (k : Int) < (es.length : Int) := by omega
        have hsr : w.heap.size < wr.heap.size := Nat.lt_of_lt_of_le hs0 hb.size
        have hbr : b < wr.heap.size := Nat.lt_trans hbl hsr
        have hb2 := fun o => hb.trans ((belowA wr o).mono hb.size)
        have HB2 := fun o => HB.out.trans ((belowA wr o).mono HB.out.size)
        have HNO : Hid (nodeOK 2 es → keyOK es k ∧ innE (es.getD k e0)) := fun h => (HKK.out k hlt).2 (h.2 k hlt)
        by_cases h0 : k = 0
        case pos =>
          subst h0
          have HRT : Hid (keyOK es 0 ∧ innE (es.getD 0 e0) ↔ (es.getD 0 e0).1.size ≤ 12 ∧ ((es.getD 0 e0).2.1 = ByteArray.empty ∧ 2 ≤ (es.getD 0 e0).2.2 ∧ (es.getD 0 e0).2.2 ≤ 511)) := ⟨fun h => ⟨h.1.1, h.2⟩, fun h => ⟨⟨h.1, fun q => absurd q (by omega)⟩, h.2⟩⟩
          simp only [Nat.zero_mul, Nat.add_zero] at c0 c1 c2
          generalize (es.getD 0 e0).1 = x at *
          generalize (es.getD 0 e0).2.1 = y at *
          generalize (es.getD 0 e0).2.2 = z at *
          have HBX : Hid (Below W0.heap.size W0 (wr.alloc (.cells #[.string x, .string y, .int .i64 z] 52))) := hb2 _
          have HBY : Hid (Below w.heap.size w (wr.alloc (.cells #[.string x, .string y, .int .i64 z] 52))) := HB2 _
          have r0 : (wr.alloc (.cells #[.string x, .string y, .int .i64 z] 52)).cell? ⟨wr.heap.size, 0, none⟩ = some (.string x) := World.cell?_alloc_at _ _ _ _ rfl
          have r1 : (wr.alloc (.cells #[.string x, .string y, .int .i64 z] 52)).cell? ⟨wr.heap.size, 1, none⟩ = some (.string y) := World.cell?_alloc_at _ _ _ _ rfl
          have r2 : (wr.alloc (.cells #[.string x, .string y, .int .i64 z] 52)).cell? ⟨wr.heap.size, 2, none⟩ = some (.int .i64 z) := World.cell?_alloc_at _ _ _ _ rfl
          have r3 : (wr.alloc (.cells #[.string x, .string y, .int .i64 z] 52)).cell? ⟨w.heap.size, 0, none⟩ = some (.int .i64 2) := (World.cell?_alloc_lt _ _ ⟨w.heap.size, 0, none⟩ hsr).trans g0
          have r4 : (wr.alloc (.cells #[.string x, .string y, .int .i64 z] 52)).cell? ⟨w.heap.size, 1, none⟩ = some (.slice (some ⟨b, off, none⟩) es.length c) := (World.cell?_alloc_lt _ _ ⟨w.heap.size, 1, none⟩ hsr).trans g1
          go_wp2_with fail
          generalize wr.alloc (.cells #[.string x, .string y, .int .i64 z] 52) = X0 at *
          clear c0 c1 c2 g0 g1 hb2 HB2
          generalize wr.heap.size = rb at *
          by_cases q1 : (12 : Int) < (x.size : Int)
          case pos =>
            go_quiet (fail)
            go_wp2
            go_ret
            exact ⟨below_drewN HBY.out _, .inr ⟨fun h => by have := (HRT.out.1 (HNO.out h)).1; omega, rfl⟩⟩
          by_cases q2 : y = ByteArray.empty
          case neg =>
            have q2n := tl_ne q2
            have q2m : ¬ y.toList = [] := fun e => by rw [e] at q2n; exact absurd q2n (by decide)
            have Q2 : Hid (¬ y = ByteArray.empty) := q2
            clear q2
            go_quiet (fail)
            go_wp2
            go_ret
            exact ⟨below_drewN HBY.out _, .inr ⟨fun h => Q2.out (HRT.out.1 (HNO.out h)).2.1, rfl⟩⟩
          subst q2
          by_cases q3 : z < 2
          case pos =>
            go_quiet (fail)
            go_wp2
            go_ret
            exact ⟨below_drewN HBY.out _, .inr ⟨fun h => by have := (HRT.out.1 (HNO.out h)).2.2; omega, rfl⟩⟩
          by_cases q4 : 512 ≤ z
          case pos =>
            go_quiet (fail)
            go_wp2
            go_ret
            exact ⟨below_drewN HBY.out _, .inr ⟨fun h => by have := (HRT.out.1 (HNO.out h)).2.2; omega, rfl⟩⟩
          have HOK : Hid (keyOK es 0 ∧ innE (es.getD 0 e0)) := HRT.out.2 ⟨by omega, ⟨rfl, by omega, by omega⟩⟩
          go_quiet (fail)
          go_wp2
          go_roundw
          case rel => exact ⟨1, by omega, by go_num, below_drewN HBX.out _, fun j hj => by rw [show j = 0 by omega]; exact HOK.out⟩
          case measure => simp [intOf]; omega
        obtain ⟨d0, -, -⟩ := hcell (k - 1) (by omega)
        rw [← HB.out.cell (p := ⟨b, off + (k - 1) * 3, none⟩) hbl] at d0
        have hw1 : IntKind.i64.wrap ((k : Int) - 1) = ((k - 1 : Nat) : Int) := (IntWalk.i64_in _ ⟨by omega, by omega⟩).trans (by omega)
        have hi1 : ((k - 1 : Nat) : Int) < (es.length : Int) := by omega
        have hk0 : 0 < k := by omega
        have HRT : Hid (keyOK es k ∧ innE (es.getD k e0) ↔ ((es.getD k e0).1.size ≤ 12 ∧ kLt (es.getD (k - 1) e0).1 (es.getD k e0).1) ∧ ((es.getD k e0).2.1 = ByteArray.empty ∧ 2 ≤ (es.getD k e0).2.2 ∧ (es.getD k e0).2.2 ≤ 511)) := ⟨fun h => ⟨⟨h.1.1, h.1.2 hk0⟩, h.2⟩, fun h => ⟨⟨h.1.1, fun _ => h.1.2⟩, h.2⟩⟩
        clear hcell
        generalize k - 1 = k1 at *
        generalize (es.getD k e0).1 = x at *
        generalize (es.getD k e0).2.1 = y at *
        generalize (es.getD k e0).2.2 = z at *
        generalize (es.getD k1 e0).1 = p1 at *
        have HBX : Hid (Below W0.heap.size W0 (wr.alloc (.cells #[.string x, .string y, .int .i64 z] 52))) := hb2 _
        have HBY : Hid (Below w.heap.size w (wr.alloc (.cells #[.string x, .string y, .int .i64 z] 52))) := HB2 _
        have r0 : (wr.alloc (.cells #[.string x, .string y, .int .i64 z] 52)).cell? ⟨wr.heap.size, 0, none⟩ = some (.string x) := World.cell?_alloc_at _ _ _ _ rfl
        have r1 : (wr.alloc (.cells #[.string x, .string y, .int .i64 z] 52)).cell? ⟨wr.heap.size, 1, none⟩ = some (.string y) := World.cell?_alloc_at _ _ _ _ rfl
        have r2 : (wr.alloc (.cells #[.string x, .string y, .int .i64 z] 52)).cell? ⟨wr.heap.size, 2, none⟩ = some (.int .i64 z) := World.cell?_alloc_at _ _ _ _ rfl
        have r3 : (wr.alloc (.cells #[.string x, .string y, .int .i64 z] 52)).cell? ⟨w.heap.size, 0, none⟩ = some (.int .i64 2) := (World.cell?_alloc_lt _ _ ⟨w.heap.size, 0, none⟩ hsr).trans g0
        have r4 : (wr.alloc (.cells #[.string x, .string y, .int .i64 z] 52)).cell? ⟨w.heap.size, 1, none⟩ = some (.slice (some ⟨b, off, none⟩) es.length c) := (World.cell?_alloc_lt _ _ ⟨w.heap.size, 1, none⟩ hsr).trans g1
        have rd : (wr.alloc (.cells #[.string x, .string y, .int .i64 z] 52)).cell? ⟨b, off + k1 * 3, none⟩ = some (.string p1) := (World.cell?_alloc_lt _ _ ⟨b, off + k1 * 3, none⟩ hbr).trans d0
        go_wp2_with fail
        generalize wr.alloc (.cells #[.string x, .string y, .int .i64 z] 52) = X0 at *
        clear c0 c1 c2 g0 g1 hb2 HB2 d0
        generalize wr.heap.size = rb at *
        by_cases q1 : (12 : Int) < (x.size : Int)
        case pos =>
          go_quiet (fail)
          go_wp2
          go_ret
          exact ⟨below_drewN HBY.out _, .inr ⟨fun h => by have := (HRT.out.1 (HNO.out h)).1.1; omega, rfl⟩⟩
        by_cases qk : kLt p1 x
        case neg =>
          have qn := kLt_not qk
          have QK : Hid (¬ kLt p1 x) := qk
          clear qk
          go_quiet (fail)
          go_wp2
          go_ret
          exact ⟨below_drewN HBY.out _, .inr ⟨fun h => QK.out (HRT.out.1 (HNO.out h)).1.2, rfl⟩⟩
        have QK : Hid (kLt p1 x) := qk
        have qn := kLt_geq qk
        clear qk
        by_cases q2 : y = ByteArray.empty
        case neg =>
          have q2n := tl_ne q2
          have q2m : ¬ y.toList = [] := fun e => by rw [e] at q2n; exact absurd q2n (by decide)
          have Q2 : Hid (¬ y = ByteArray.empty) := q2
          clear q2
          go_quiet (fail)
          go_wp2
          go_ret
          exact ⟨below_drewN HBY.out _, .inr ⟨fun h => Q2.out (HRT.out.1 (HNO.out h)).2.1, rfl⟩⟩
        subst q2
        by_cases q3 : z < 2
        case pos =>
          go_quiet (fail)
          go_wp2
          go_ret
          exact ⟨below_drewN HBY.out _, .inr ⟨fun h => by have := (HRT.out.1 (HNO.out h)).2.2; omega, rfl⟩⟩
        by_cases q4 : 512 ≤ z
        case pos =>
          go_quiet (fail)
          go_wp2
          go_ret
          exact ⟨below_drewN HBY.out _, .inr ⟨fun h => by have := (HRT.out.1 (HNO.out h)).2.2; omega, rfl⟩⟩
        have HOK : Hid (keyOK es k ∧ innE (es.getD k e0)) := HRT.out.2 ⟨⟨by omega, QK.out⟩, ⟨rfl, by omega, by omega⟩⟩
        go_quiet (fail)
        go_wp2
        go_roundw
        case rel => exact ⟨k + 1, by omega, by go_num, below_drewN HBX.out _, fun j hj => by
          by_cases e : j = k
          · rw [e]; exact HOK.out
          · exact HA.out j (by omega)⟩
        case measure => simp [intOf]; omega
      · have hki : ¬ (k : Int) < (es.length : Int) := by omega
        have hke : k = es.length := by omega
        have HY : Hid (nodeOK 2 es) := ⟨.inr ⟨rfl, by omega, hl5⟩, fun i hi => (HKK.out i hi).1 (HA.out i (by omega))⟩
        clear hke
        go_wp2
        go_ret
        exact ⟨HB.out, .inl ⟨HY.out, rfl⟩⟩
end Go.Proofs.YtfbjagjgofdheaaGreatDoor
