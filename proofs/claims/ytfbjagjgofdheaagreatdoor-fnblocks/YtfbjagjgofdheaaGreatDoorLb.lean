import Derived.Test.YtfbjagjgofdheaaGreatDoorLa
import Derived.Test.YtfbjagjgofdheaaGreatDoorCd3
namespace Go.Proofs.YtfbjagjgofdheaaGreatDoor
open Go.RowKit
set_option linter.unusedVariables false

set_option maxRecDepth 100000 in
set_option maxHeartbeats 2000000 in
theorem specEncS_no (N g nx tb : Int) (a : Option Addr) (c : Nat) (rs : List R2) (w : World) (hv : TRead w (.slice a rs.length c) rs) (hn : rs.length ≤ 1048576) (hok : ¬ spOK N g nx tb rs) :
    Calls Tryz.prog 35 #[.agg #[.int .i64 N, .int .i64 g, .int .i64 nx, .int .i64 tb, .slice a rs.length c]] w fun e w' => e = .returned (.tuple #[.slice none 0 0, .int .i64 5]) ∧ Below w.heap.size w w' := by
  have hb0 := belowA w (.cells #[.int .i64 N, .int .i64 g, .int .i64 nx, .int .i64 tb, .slice a rs.length c] 41)
  have HNO : Hid (¬ spOK N g nx tb rs) := hok
  clear hok
  go_enter Tryz.func35, Tryz.ntmps35
  go_wp2_with fail
  refine (l2SuperOK_any N g nx tb a c rs _ (hv.below hb0) hn).mono ?_
  rintro e w1 ⟨hb1, ⟨hyes, -⟩ | ⟨-, rfl⟩⟩
  case inl => exact absurd hyes HNO.out
  have hB1 := hb0.trans (hb1.mono hb0.size)
  go_wp2
  exact bodyPost_ret (v := .tuple #[.slice none 0 0, .int .i64 5]) (by simp [results, Tryz.results35, go_sem]) rfl ⟨rfl, hB1⟩

set_option maxRecDepth 100000 in
set_option maxHeartbeats 4000000 in
theorem specEncS_yes (N g nx tb : Int) (a : Option Addr) (c : Nat) (rs : List R2) (w : World) (hv : TRead w (.slice a rs.length c) rs) (hok : spOK N g nx tb rs) :
    Calls Tryz.prog 35 #[.agg #[.int .i64 N, .int .i64 g, .int .i64 nx, .int .i64 tb, .slice a rs.length c]] w fun e w' => ∃ u, e = .returned (.tuple #[u, .int .i64 0]) ∧ Row8 w.heap.size w' u (supL N g nx tb rs) ∧ Below w.heap.size w w' := by
  have hl := hok.2.1
  have hb0 := belowA w (.cells #[.int .i64 N, .int .i64 g, .int .i64 nx, .int .i64 tb, .slice a rs.length c] 41)
  have hX := heap_alloc_new w (.cells #[.int .i64 N, .int .i64 g, .int .i64 nx, .int .i64 tb, .slice a rs.length c] 41)
  have hs0 : w.heap.size < (w.alloc (.cells #[.int .i64 N, .int .i64 g, .int .i64 nx, .int .i64 tb, .slice a rs.length c] 41)).heap.size := by simp
  have HCELL : Hid (∀ W : World, W.heap[w.heap.size]? = some (.cells #[.int .i64 N, .int .i64 g, .int .i64 nx, .int .i64 tb, .slice a rs.length c] 41 (0, 0)) → W.cell? ⟨w.heap.size, 0, none⟩ = some (.int .i64 N) ∧ W.cell? ⟨w.heap.size, 1, none⟩ = some (.int .i64 g) ∧ W.cell? ⟨w.heap.size, 2, none⟩ = some (.int .i64 nx) ∧ W.cell? ⟨w.heap.size, 3, none⟩ = some (.int .i64 tb) ∧ W.cell? ⟨w.heap.size, 4, none⟩ = some (.slice a rs.length c)) := fun W h => by
    simp [World.cell?, h]
  have HE : Hid (supL N g nx tb rs = sealL (supQ N g nx tb rs rs.length)) := rfl
  have HOK : Hid (spOK N g nx tb rs) := hok
  clear hok
  go_enter Tryz.func35, Tryz.ntmps35
  go_wp2_with fail
  refine (l2SuperOK_any N g nx tb a c rs _ (hv.below hb0) (by omega)).mono ?_
  rintro e w1 ⟨hb1, ⟨-, rfl⟩ | ⟨hno, -⟩⟩
  case inr => exact absurd HOK.out hno
  have hB1 := hb0.trans (hb1.mono hb0.size)
  have hlt1 : w.heap.size < w1.heap.size := Nat.lt_of_lt_of_le hs0 hb1.size
  have hX1 := (hb1.block _ hs0).trans hX
  have HBX : Hid (∀ X : World, Below w1.heap.size w1 X → X.cell? ⟨w.heap.size, 0, none⟩ = some (.int .i64 N) ∧ X.cell? ⟨w.heap.size, 1, none⟩ = some (.int .i64 g) ∧ X.cell? ⟨w.heap.size, 2, none⟩ = some (.int .i64 nx) ∧ X.cell? ⟨w.heap.size, 3, none⟩ = some (.int .i64 tb) ∧ X.cell? ⟨w.heap.size, 4, none⟩ = some (.slice a rs.length c)) := fun X hX => HCELL.out X ((hX.block _ hlt1).trans hX1)
  have HRX : Hid (∀ X : World, Below w1.heap.size w1 X → TRead X (.slice a rs.length c) rs) := fun X hX => (hv.below hB1).below hX
  clear hX HCELL hb1 hs0 hX1 hv hb0
  obtain ⟨k0, k1, k2, k3, k4⟩ := HBX.out w1 (Below.refl _ _)
  have hr2 := Row8.two w1.heap.size w1 (Nat.le_refl _) 4 rs.length
  go_wp2_with fail
  refine (l2Num_any _ [4, (rs.length : Int)] N 2 w1.heap.size _ hr2 (by simp) (by simp) (by omega)).mono ?_
  rintro e w2 ⟨u2, rfl, hR2, hb2⟩
  have hx2 : Below w1.heap.size w1 w2 := (belowA w1 _).trans hb2
  clear k0 k1 k2 k3 k4 hr2 hb2
  obtain ⟨k0, k1, k2, k3, k4⟩ := HBX.out w2 hx2
  obtain ⟨va, vc, hva⟩ := hR2.shape
  subst hva
  have hs2 := hx2.size
  have HL2 : Hid (([4, (rs.length : Int)] ++ leN N 2).length = 4) := by rw [Hid]; simp [leN_length]
  have HS0 : Hid (supH N g nx tb rs.length = [4, (rs.length : Int)] ++ leN N 2 ++ leN g 8 ++ leN nx 2 ++ leN tb 2) := rfl
  generalize [4, (rs.length : Int)] ++ leN N 2 = t2 at *
  go_wp2_with fail
  refine (l2Num_any _ t2 g 8 w1.heap.size _ hR2 (by omega) (by rw [HL2.out]; omega) (by omega)).mono ?_
  rintro e w3 ⟨u3, rfl, hR3, hb3⟩
  have hx3 := hx2.trans hb3
  clear k0 k1 k2 k3 k4 hb3 hR2
  obtain ⟨k0, k1, k2, k3, k4⟩ := HBX.out w3 hx3
  obtain ⟨va, vc, hva⟩ := hR3.shape
  subst hva
  have hs3 := hx3.size
  have HL3 : Hid ((t2 ++ leN g 8).length = 12) := by rw [Hid, List.length_append, leN_length, HL2.out]
  generalize t2 ++ leN g 8 = t3 at *
  go_wp2_with fail
  refine (l2Num_any _ t3 nx 2 w1.heap.size _ hR3 (by omega) (by rw [HL3.out]; omega) (by omega)).mono ?_
  rintro e w4 ⟨u4, rfl, hR4, hb4⟩
  have hx4 := hx3.trans hb4
  clear k0 k1 k2 k3 k4 hb4 hR3
  obtain ⟨k0, k1, k2, k3, k4⟩ := HBX.out w4 hx4
  obtain ⟨va, vc, hva⟩ := hR4.shape
  subst hva
  have hs4 := hx4.size
  have HL4 : Hid ((t3 ++ leN nx 2).length = 14) := by rw [Hid, List.length_append, leN_length, HL3.out]
  generalize t3 ++ leN nx 2 = t4 at *
  go_wp2_with fail
  refine (l2Num_any _ t4 tb 2 w1.heap.size _ hR4 (by omega) (by rw [HL4.out]; omega) (by omega)).mono ?_
  rintro e w5 ⟨u5, rfl, hR5, hb5⟩
  have hx5 := hx4.trans hb5
  clear k0 k1 k2 k3 k4 hb5 hR4
  rw [← HS0.out] at hR5
  have HQ0 : Hid (supQ N g nx tb rs 0 = supH N g nx tb rs.length) := rfl
  rw [← HQ0.out] at hR5
  obtain ⟨k0, k1, k2, k3, k4⟩ := HBX.out w5 hx5
  go_wp2
  clear k0 k1 k2 k3 k4
  go_loopw [4, 5] (fun u i wr => ∃ k : Nat, k ≤ rs.length ∧ i = .int .i64 k ∧ Row8 w1.heap.size wr u (supQ N g nx tb rs k) ∧ Below w1.heap.size w1 wr) (fun _ i _ => rs.length - (intOf i).toNat)
  case atStart => exact ⟨0, Nat.zero_le _, rfl, hR5, hx5⟩
  case round =>
    obtain ⟨k, hk, rfl, hown, hX⟩ := hrel
    clear hR5 hx5
    obtain ⟨ua, uc, hua⟩ := hown.shape
    subst hua
    obtain ⟨-, -, -, -, b1⟩ := HBX.out _ hX
    have hsX := hX.size
    by_cases hlt : k < rs.length
    · have hki : (k : Int) < (rs.length : Int) := by omega
      obtain ⟨_, _, he, hc⟩ := HRX.out _ hX
      simp only [Value.slice.injEq, true_and] at he
      obtain ⟨rfl, rfl⟩ := he
      obtain ⟨b, off, rfl, hcell⟩ := hc (by omega)
      obtain ⟨g1, g2⟩ := hcell k hlt
      have HSN : Hid (supQ N g nx tb rs (k + 1) = supQ N g nx tb rs k ++ (leN (rs.getD k (0, 0)).1 2 ++ leN (rs.getD k (0, 0)).2 2)) := rfl
      rw [← List.append_assoc] at HSN
      have hln := supQ_length N g nx tb rs k
      obtain ⟨p, HP⟩ : ∃ p, Hid (rs.getD k (0, 0) = p) := ⟨_, rfl⟩
      rw [HP.out] at g1 g2 HSN
      obtain ⟨x, y⟩ := p
      simp only at g1 g2 HSN
      have HLN : Hid ((supQ N g nx tb rs k).length = 16 + 4 * k) := hln
      have HR : Hid (∀ X : World, Below w1.heap.size w1 X → X.cell? ⟨b, off + k * 2 + 1, none⟩ = some (.int .i64 y)) := fun X hX => by
        obtain ⟨_, _, he, hc⟩ := HRX.out X hX
        simp only [Value.slice.injEq, true_and] at he
        obtain ⟨rfl, rfl⟩ := he
        obtain ⟨b', off', he, hcell⟩ := hc (by omega)
        simp only [Option.some.injEq, Addr.mk.injEq, and_true] at he
        obtain ⟨rfl, rfl⟩ := he
        have := hcell k hlt
        rw [HP.out] at this
        exact this.2
      clear hcell hc hln
      generalize htk : supQ N g nx tb rs k = tk at *
      go_wp2_with fail
      refine (l2Num_any _ tk x 2 w1.heap.size _ hown (by omega) (by rw [HLN.out]; omega) (by omega)).mono ?_
      rintro e w6 ⟨u6, rfl, hR6, hb6⟩
      have hX6 := hX.trans hb6
      obtain ⟨-, -, -, -, b3⟩ := HBX.out _ hX6
      have g2' := HR.out _ hX6
      have hs6 := hX6.size
      have HL6 : Hid ((tk ++ leN x 2).length = 18 + 4 * k) := by rw [Hid, List.length_append, leN_length, HLN.out]; omega
      clear g1 g2 b1 hown HLN hb6
      generalize tk ++ leN x 2 = t6 at *
      obtain ⟨va, vc, hva⟩ := hR6.shape
      subst hva
      go_wp2_with fail
      refine (l2Num_any _ t6 y 2 w1.heap.size _ hR6 (by omega) (by rw [HL6.out]; omega) (by omega)).mono ?_
      rintro e w7 ⟨u7, rfl, hR7, hb7⟩
      rw [← HSN.out] at hR7
      have hX7 := hX6.trans hb7
      go_wp2
      go_roundw
      case rel => exact ⟨k + 1, by omega, by go_num, hR7, hX7⟩
      case measure => simp [intOf]; omega
    · obtain rfl : k = rs.length := by omega
      have hl2 : (supQ N g nx tb rs rs.length).length ≤ 124 := by rw [supQ_length]; omega
      have HB : Hid (Byt (supQ N g nx tb rs rs.length)) := supQ_byt N g nx tb rs hl.2 _
      go_wp2_with fail
      refine (l2Seal_any _ (supQ N g nx tb rs rs.length) w1.heap.size _ hown (by omega) hl2 HB.out).mono ?_
      rintro e w3 ⟨u3, rfl, hR3, hb3⟩
      rw [← HE.out] at hR3
      have hB3 := hB1.trans ((hX.trans hb3).mono (by omega))
      go_wp2
      refine bodyPost_ret (v := .tuple #[u3, .int .i64 0]) (by simp [results, Tryz.results35, go_sem]) rfl ⟨_, rfl, hR3.lower (by omega), hB3⟩
end Go.Proofs.YtfbjagjgofdheaaGreatDoor
