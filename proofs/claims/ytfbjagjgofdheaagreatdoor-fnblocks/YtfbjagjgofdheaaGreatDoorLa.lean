import Derived.Test.YtfbjagjgofdheaaGreatDoorHb
namespace Go.Proofs.YtfbjagjgofdheaaGreatDoor
open Go.RowKit
set_option linter.unusedVariables false

set_option maxRecDepth 100000 in
set_option maxHeartbeats 8000000 in
theorem l2SuperOK_any (N g nx tb : Int) (a : Option Addr) (c : Nat) (rs : List R2) (w : World) (hv : TRead w (.slice a rs.length c) rs) (hn : rs.length ≤ 1048576) :
    Calls Tryz.prog 52 #[.agg #[.int .i64 N, .int .i64 g, .int .i64 nx, .int .i64 tb, .slice a rs.length c]] w fun e w' => Below w.heap.size w w' ∧ ((spOK N g nx tb rs ∧ e = .returned (.bool true)) ∨ (¬ spOK N g nx tb rs ∧ e = .returned (.bool false))) := by
  obtain ⟨_, _, he, hc⟩ := hv
  simp only [Value.slice.injEq, true_and] at he
  obtain ⟨rfl, rfl⟩ := he
  obtain ⟨W0, HW0⟩ : ∃ W0, Hid (W0 = w.alloc (.cells #[.int .i64 N, .int .i64 g, .int .i64 nx, .int .i64 tb, .slice a rs.length c] 41)) := ⟨_, rfl⟩
  have hb0 : Below w.heap.size w W0 := by rw [HW0.out]; exact belowA _ _
  have hX : W0.heap[w.heap.size]? = some (.cells #[.int .i64 N, .int .i64 g, .int .i64 nx, .int .i64 tb, .slice a rs.length c] 41 (0, 0)) := by rw [HW0.out]; exact heap_alloc_new w _
  have hs0 : w.heap.size < W0.heap.size := (Array.getElem?_eq_some_iff.1 hX).1
  have HCELL : Hid (∀ W : World, W.heap[w.heap.size]? = some (.cells #[.int .i64 N, .int .i64 g, .int .i64 nx, .int .i64 tb, .slice a rs.length c] 41 (0, 0)) → W.cell? ⟨w.heap.size, 0, none⟩ = some (.int .i64 N) ∧ W.cell? ⟨w.heap.size, 1, none⟩ = some (.int .i64 g) ∧ W.cell? ⟨w.heap.size, 2, none⟩ = some (.int .i64 nx) ∧ W.cell? ⟨w.heap.size, 3, none⟩ = some (.int .i64 tb) ∧ W.cell? ⟨w.heap.size, 4, none⟩ = some (.slice a rs.length c)) := fun W h => by
    simp [World.cell?, h]
  obtain ⟨x0, x1, x2, x3, x4⟩ := HCELL.out W0 hX
  have HNO : Hid (spOK N g nx tb rs → ((8 ≤ N ∧ N ≤ 512) ∧ (1 ≤ g ∧ g ≤ 1099511627776) ∧ (1 ≤ nx ∧ nx ≤ 65535) ∧ (2 ≤ tb ∧ tb ≤ N - 1)) ∧ (1 ≤ rs.length ∧ rs.length ≤ 16)) := fun h => ⟨h.1, h.2.1⟩
  have HB0 : Hid _ := hb0
  go_enter Tryz.func52, Tryz.ntmps52
  go_upto_region 1 with fail
  rw [← HW0.out]
  go_wp2_with fail
  refine (l1BlocksOK_any _ _).mono ?_
  rintro e w1 ⟨rfl, rfl⟩
  by_cases hN : 8 ≤ N ∧ N ≤ 512
  case neg =>
    rw [inB_false hN]
    go_wp2
    go_ret
    exact ⟨HB0.out, .inr ⟨fun h => hN (HNO.out h).1.1, rfl⟩⟩
  rw [inB_true hN]
  by_cases h1 : g < 1
  case pos =>
    go_wp2
    go_ret
    exact ⟨HB0.out, .inr ⟨fun h => by have := HNO.out h; omega, rfl⟩⟩
  by_cases h2 : 1099511627776 < g
  case pos =>
    go_wp2
    go_ret
    exact ⟨HB0.out, .inr ⟨fun h => by have := HNO.out h; omega, rfl⟩⟩
  by_cases h3 : nx < 1
  case pos =>
    go_wp2
    go_ret
    exact ⟨HB0.out, .inr ⟨fun h => by have := HNO.out h; omega, rfl⟩⟩
  by_cases h4 : 65535 < nx
  case pos =>
    go_wp2
    go_ret
    exact ⟨HB0.out, .inr ⟨fun h => by have := HNO.out h; omega, rfl⟩⟩
  by_cases h5 : tb < 2
  case pos =>
    go_wp2
    go_ret
    exact ⟨HB0.out, .inr ⟨fun h => by have := HNO.out h; omega, rfl⟩⟩
  by_cases h6 : N ≤ tb
  case pos =>
    go_wp2
    go_ret
    exact ⟨HB0.out, .inr ⟨fun h => by have := HNO.out h; omega, rfl⟩⟩
  by_cases h7 : (rs.length : Int) < 1
  case pos =>
    go_wp2
    go_ret
    exact ⟨HB0.out, .inr ⟨fun h => by have := HNO.out h; omega, rfl⟩⟩
  by_cases h8 : (16 : Int) < (rs.length : Int)
  case pos =>
    go_wp2
    go_ret
    exact ⟨HB0.out, .inr ⟨fun h => by have := HNO.out h; omega, rfl⟩⟩
  go_wp2
  clear x0 x1 x2 x3 x4
  have HFS : Hid (fsOK N g nx tb ∧ 1 ≤ rs.length ∧ rs.length ≤ 16) := ⟨⟨hN, by omega, by omega, by omega⟩, by omega⟩
  obtain ⟨b, off, rfl, hcell⟩ := hc (by omega)
  have hbl : b < w.heap.size := World.block_lt_of_cell? _ _ (hcell 0 (by omega)).1
  have HC : Hid (∀ i, i < rs.length → w.cell? ⟨b, off + i * 2, none⟩ = some (.int .i64 (rs.getD i (0, 0)).1) ∧ w.cell? ⟨b, off + i * 2 + 1, none⟩ = some (.int .i64 (rs.getD i (0, 0)).2)) := hcell
  clear hc hcell h1 h2 h3 h4 h5 h6 h7 h8 hN HNO hb0
  go_loopw [3] (fun i wr => ∃ k : Nat, k ≤ rs.length ∧ i = .int .i64 k ∧ Below W0.heap.size W0 wr ∧ ∀ j, j < k → rtOK N nx rs j) (fun i _ => rs.length - (intOf i).toNat)
  case atStart => exact ⟨0, by omega, rfl, Below.refl _ _, fun j hj => by omega⟩
  case round =>
    obtain ⟨k, hk, rfl, hb, hall⟩ := hrel
    have HA : Hid (∀ j, j < k → rtOK N nx rs j) := hall
    clear hall
    obtain ⟨g0, g1, g2, g3, g4⟩ := HCELL.out wr ((hb.block _ hs0).trans hX)
    have HB : Hid (Below w.heap.size w wr) := HB0.out.trans (hb.mono HB0.out.size)
    by_cases hlt : k < rs.length
    · obtain ⟨c0, c1⟩ := HC.out k hlt
      rw [← HB.out.cell (p := ⟨b, off + k * 2, none⟩) hbl] at c0
      rw [← HB.out.cell (p := ⟨b, off + k * 2 + 1, none⟩) hbl] at c1
      have hki : (k : Int) < (rs.length : Int) := by omega
      have hsr : w.heap.size < wr.heap.size := Nat.lt_of_lt_of_le hs0 hb.size
      have hbr : b < wr.heap.size := by omega
      have hb2 := fun o => hb.trans ((belowA wr o).mono hb.size)
      have HB2 := fun o => HB.out.trans ((belowA wr o).mono HB.out.size)
      have HNO : Hid (spOK N g nx tb rs → rtOK N nx rs k) := fun h => h.2.2 k hlt
      by_cases h0 : k = 0
      · subst h0
        have HRT : Hid (rtOK N nx rs 0 ↔ (0 ≤ (rs.getD 0 (0, 0)).1 ∧ (rs.getD 0 (0, 0)).1 ≤ nx - 1) ∧ (2 ≤ (rs.getD 0 (0, 0)).2 ∧ (rs.getD 0 (0, 0)).2 ≤ N - 1)) := ⟨fun h => ⟨h.1, h.2.1⟩, fun h => ⟨h.1, h.2, fun q => absurd q (by omega)⟩⟩
        simp only [Nat.zero_mul, Nat.add_zero] at c0 c1
        generalize (rs.getD 0 (0, 0)).1 = x at *
        generalize (rs.getD 0 (0, 0)).2 = y at *
        have HBX : Hid (Below W0.heap.size W0 (wr.alloc (.cells #[.int .i64 x, .int .i64 y] 46))) := hb2 _
        have HBY : Hid (Below w.heap.size w (wr.alloc (.cells #[.int .i64 x, .int .i64 y] 46))) := HB2 _
        have r0 : (wr.alloc (.cells #[.int .i64 x, .int .i64 y] 46)).cell? ⟨wr.heap.size, 0, none⟩ = some (.int .i64 x) := World.cell?_alloc_at _ _ _ _ rfl
        have r1 : (wr.alloc (.cells #[.int .i64 x, .int .i64 y] 46)).cell? ⟨wr.heap.size, 1, none⟩ = some (.int .i64 y) := World.cell?_alloc_at _ _ _ _ rfl
        have r2 : (wr.alloc (.cells #[.int .i64 x, .int .i64 y] 46)).cell? ⟨w.heap.size, 0, none⟩ = some (.int .i64 N) := (World.cell?_alloc_lt _ _ ⟨w.heap.size, 0, none⟩ hsr).trans g0
        have r3 : (wr.alloc (.cells #[.int .i64 x, .int .i64 y] 46)).cell? ⟨w.heap.size, 2, none⟩ = some (.int .i64 nx) := (World.cell?_alloc_lt _ _ ⟨w.heap.size, 2, none⟩ hsr).trans g2
        go_wp2_with fail
        generalize wr.alloc (.cells #[.int .i64 x, .int .i64 y] 46) = X0 at *
        clear c0 c1 g0 g1 g2 g3 g4 hb2 HB2
        generalize wr.heap.size = rb at *
        by_cases q1 : x < 0
        case pos =>
          go_quiet (fail)
          go_wp2
          go_ret
          exact ⟨below_drewN HBY.out _, .inr ⟨fun h => by have := HRT.out.1 (HNO.out h); omega, rfl⟩⟩
        by_cases q2 : nx ≤ x
        case pos =>
          go_quiet (fail)
          go_wp2
          go_ret
          exact ⟨below_drewN HBY.out _, .inr ⟨fun h => by have := HRT.out.1 (HNO.out h); omega, rfl⟩⟩
        by_cases q3 : y < 2
        case pos =>
          go_quiet (fail)
          go_wp2
          go_ret
          exact ⟨below_drewN HBY.out _, .inr ⟨fun h => by have := HRT.out.1 (HNO.out h); omega, rfl⟩⟩
        by_cases q4 : N ≤ y
        case pos =>
          go_quiet (fail)
          go_wp2
          go_ret
          exact ⟨below_drewN HBY.out _, .inr ⟨fun h => by have := HRT.out.1 (HNO.out h); omega, rfl⟩⟩
        have HOK : Hid (rtOK N nx rs 0) := HRT.out.2 ⟨by omega, by omega⟩
        go_quiet (fail)
        go_wp2
        go_roundw
        case rel => exact ⟨1, by omega, by go_num, below_drewN HBX.out _, fun j hj => by rw [show j = 0 by omega]; exact HOK.out⟩
        case measure => simp [intOf]; omega
      · obtain ⟨d0, -⟩ := HC.out (k - 1) (by omega)
        rw [← HB.out.cell (p := ⟨b, off + (k - 1) * 2, none⟩) hbl] at d0
        have hw1 : IntKind.i64.wrap ((k : Int) - 1) = ((k - 1 : Nat) : Int) := (IntWalk.i64_in _ ⟨by omega, by omega⟩).trans (by omega)
        have hi1 : ((k - 1 : Nat) : Int) < (rs.length : Int) := by omega
        have hk0 : 0 < k := by omega
        have HRT : Hid (rtOK N nx rs k ↔ (0 ≤ (rs.getD k (0, 0)).1 ∧ (rs.getD k (0, 0)).1 ≤ nx - 1) ∧ (2 ≤ (rs.getD k (0, 0)).2 ∧ (rs.getD k (0, 0)).2 ≤ N - 1) ∧ (rs.getD (k - 1) (0, 0)).1 < (rs.getD k (0, 0)).1) := ⟨fun h => ⟨h.1, h.2.1, h.2.2 hk0⟩, fun h => ⟨h.1, h.2.1, fun _ => h.2.2⟩⟩
        generalize k - 1 = k1 at *
        generalize (rs.getD k (0, 0)).1 = x at *
        generalize (rs.getD k (0, 0)).2 = y at *
        generalize (rs.getD k1 (0, 0)).1 = z at *
        have HBX : Hid (Below W0.heap.size W0 (wr.alloc (.cells #[.int .i64 x, .int .i64 y] 46))) := hb2 _
        have HBY : Hid (Below w.heap.size w (wr.alloc (.cells #[.int .i64 x, .int .i64 y] 46))) := HB2 _
        have r0 : (wr.alloc (.cells #[.int .i64 x, .int .i64 y] 46)).cell? ⟨wr.heap.size, 0, none⟩ = some (.int .i64 x) := World.cell?_alloc_at _ _ _ _ rfl
        have r1 : (wr.alloc (.cells #[.int .i64 x, .int .i64 y] 46)).cell? ⟨wr.heap.size, 1, none⟩ = some (.int .i64 y) := World.cell?_alloc_at _ _ _ _ rfl
        have r2 : (wr.alloc (.cells #[.int .i64 x, .int .i64 y] 46)).cell? ⟨w.heap.size, 0, none⟩ = some (.int .i64 N) := (World.cell?_alloc_lt _ _ ⟨w.heap.size, 0, none⟩ hsr).trans g0
        have r3 : (wr.alloc (.cells #[.int .i64 x, .int .i64 y] 46)).cell? ⟨w.heap.size, 2, none⟩ = some (.int .i64 nx) := (World.cell?_alloc_lt _ _ ⟨w.heap.size, 2, none⟩ hsr).trans g2
        have r4 : (wr.alloc (.cells #[.int .i64 x, .int .i64 y] 46)).cell? ⟨w.heap.size, 4, none⟩ = some (.slice (some ⟨b, off, none⟩) rs.length c) := (World.cell?_alloc_lt _ _ ⟨w.heap.size, 4, none⟩ hsr).trans g4
        have rd : (wr.alloc (.cells #[.int .i64 x, .int .i64 y] 46)).cell? ⟨b, off + k1 * 2, none⟩ = some (.int .i64 z) := (World.cell?_alloc_lt _ _ ⟨b, off + k1 * 2, none⟩ hbr).trans d0
        go_wp2_with fail
        generalize wr.alloc (.cells #[.int .i64 x, .int .i64 y] 46) = X0 at *
        clear c0 c1 g0 g1 g2 g3 g4 d0 hb2 HB2
        generalize wr.heap.size = rb at *
        by_cases q1 : x < 0
        case pos =>
          go_quiet (fail)
          go_wp2
          go_ret
          exact ⟨below_drewN HBY.out _, .inr ⟨fun h => by have := HRT.out.1 (HNO.out h); omega, rfl⟩⟩
        by_cases q2 : nx ≤ x
        case pos =>
          go_quiet (fail)
          go_wp2
          go_ret
          exact ⟨below_drewN HBY.out _, .inr ⟨fun h => by have := HRT.out.1 (HNO.out h); omega, rfl⟩⟩
        by_cases q3 : y < 2
        case pos =>
          go_quiet (fail)
          go_wp2
          go_ret
          exact ⟨below_drewN HBY.out _, .inr ⟨fun h => by have := HRT.out.1 (HNO.out h); omega, rfl⟩⟩
        by_cases q4 : N ≤ y
        case pos =>
          go_quiet (fail)
          go_wp2
          go_ret
          exact ⟨below_drewN HBY.out _, .inr ⟨fun h => by have := HRT.out.1 (HNO.out h); omega, rfl⟩⟩
        by_cases q5 : x ≤ z
        case pos =>
          go_quiet (fail)
          go_wp2
          go_ret
          exact ⟨below_drewN HBY.out _, .inr ⟨fun h => by have := HRT.out.1 (HNO.out h); omega, rfl⟩⟩
        have HOK : Hid (rtOK N nx rs k) := HRT.out.2 ⟨by omega, by omega, by omega⟩
        go_quiet (fail)
        go_wp2
        go_roundw
        case rel => exact ⟨k + 1, by omega, by go_num, below_drewN HBX.out _, fun j hj => by
          by_cases e : j = k
          · rw [e]; exact HOK.out
          · exact HA.out j (by omega)⟩
        case measure => simp [intOf]; omega
    · have hki : ¬ (k : Int) < (rs.length : Int) := by omega
      have hke : k = rs.length := by omega
      have HY : Hid (spOK N g nx tb rs) := ⟨HFS.out.1, HFS.out.2, fun i hi => HA.out i (by omega)⟩
      clear hke
      go_wp2
      go_ret
      exact ⟨HB.out, .inl ⟨HY.out, rfl⟩⟩
end Go.Proofs.YtfbjagjgofdheaaGreatDoor
