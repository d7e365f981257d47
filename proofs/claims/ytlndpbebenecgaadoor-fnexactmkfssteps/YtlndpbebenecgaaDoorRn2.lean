import Derived.Test.YtlndpbebenecgaaDoorRn1
namespace Go.Proofs.YtlndpbebenecgaaDoor
open Go.RowKit

theorem ROwn.stored {lo hi : Nat} {w : World} {b off n cap : Nat} {rs : List (Int × Int × Int)} (h : ROwn lo hi w (.slice (some ⟨b, off, none⟩) n cap) rs) (j : Nat) (hj : j < n) (x y z : Int) :
    ROwn lo hi (((w.setCell ⟨b, off + j * 3, none⟩ (.int .i64 x)).setCell ⟨b, off + j * 3 + 1, none⟩ (.int .i64 y)).setCell ⟨b, off + j * 3 + 2, none⟩ (.int .i64 z)) (.slice (some ⟨b, off, none⟩) n cap) (rs.set j (x, y, z)) ∧
      Upd lo hi w (((w.setCell ⟨b, off + j * 3, none⟩ (.int .i64 x)).setCell ⟨b, off + j * 3 + 1, none⟩ (.int .i64 y)).setCell ⟨b, off + j * 3 + 2, none⟩ (.int .i64 z)) := by
  obtain ⟨a, cap', hv, hc⟩ := h
  simp only [Value.slice.injEq] at hv
  obtain ⟨rfl, rfl, rfl⟩ := hv
  obtain ⟨b', off', ha, h1, h2, h3, h4, hcell⟩ := hc (by omega)
  simp only [Option.some.injEq, Addr.mk.injEq, and_true] at ha
  obtain ⟨rfl, rfl⟩ := ha
  refine ⟨⟨_, _, by rw [List.length_set], fun _ => ⟨b, off, rfl, h1, h2, by simpa using h3, fun j => by simpa using h4 j, fun i hi => ?_⟩⟩, (((Upd.refl _ _ _).setCell (p := ⟨b, off + j * 3, none⟩) h1 h2 _).setCell (p := ⟨b, off + j * 3 + 1, none⟩) h1 h2 _).setCell (p := ⟨b, off + j * 3 + 2, none⟩) h1 h2 _⟩
  rw [List.length_set] at hi
  obtain ⟨g1, g2, g3⟩ := hcell i hi
  simp only [List.getD_eq_getElem?_getD] at g1 g2 g3 ⊢
  rw [List.getElem?_set]
  by_cases hij : j = i
  · subst hij
    rw [if_pos rfl, if_pos hi]
    have n12 : (⟨b, off + j * 3 + 1, none⟩ : Addr) ≠ ⟨b, off + j * 3, none⟩ := by simp
    have n13 : (⟨b, off + j * 3 + 2, none⟩ : Addr) ≠ ⟨b, off + j * 3, none⟩ := by simp
    have n23 : (⟨b, off + j * 3 + 2, none⟩ : Addr) ≠ ⟨b, off + j * 3 + 1, none⟩ := by simp
    refine ⟨?_, ?_, ?_⟩
    · rw [World.cell?_setCell_other _ _ _ _ n13, World.cell?_setCell_other _ _ _ _ n12, World.cell?_setCell_same _ _ _ g1]; rfl
    · rw [World.cell?_setCell_other _ _ _ _ n23, World.cell?_setCell_same _ _ _ ((World.cell?_setCell_other _ _ _ _ (Ne.symm n12)).trans g2)]; rfl
    · rw [World.cell?_setCell_same _ _ _ ((World.cell?_setCell_other _ _ _ _ (Ne.symm n23)).trans ((World.cell?_setCell_other _ _ _ _ (Ne.symm n13)).trans g3))]; rfl
  · rw [if_neg hij]
    have hn : ∀ p q, p < 3 → q < 3 → (⟨b, off + i * 3 + p, none⟩ : Addr) ≠ ⟨b, off + j * 3 + q, none⟩ := fun p q hp hq hh => by simp only [Addr.mk.injEq] at hh; omega
    have m1 := hn 0 0 (by omega) (by omega); have m2 := hn 0 1 (by omega) (by omega); have m3 := hn 0 2 (by omega) (by omega)
    have m4 := hn 1 0 (by omega) (by omega); have m5 := hn 1 1 (by omega) (by omega); have m6 := hn 1 2 (by omega) (by omega)
    have m7 := hn 2 0 (by omega) (by omega); have m8 := hn 2 1 (by omega) (by omega); have m9 := hn 2 2 (by omega) (by omega)
    simp only [Nat.add_zero] at m1 m2 m3 m4 m7
    refine ⟨?_, ?_, ?_⟩
    · rw [World.cell?_setCell_other _ _ _ _ (Ne.symm m3), World.cell?_setCell_other _ _ _ _ (Ne.symm m2), World.cell?_setCell_other _ _ _ _ (Ne.symm m1), g1]
    · rw [World.cell?_setCell_other _ _ _ _ (Ne.symm m6), World.cell?_setCell_other _ _ _ _ (Ne.symm m5), World.cell?_setCell_other _ _ _ _ (Ne.symm m4), g2]
    · rw [World.cell?_setCell_other _ _ _ _ (Ne.symm m9), World.cell?_setCell_other _ _ _ _ (Ne.symm m8), World.cell?_setCell_other _ _ _ _ (Ne.symm m7), g3]

/-- what a mark from k on leaves in n runs -/
def mk3 (k : Int) (n : Nat) : List (Int × Int × Int) := (List.range n).map fun (i : Nat) => (k + 3 * (i : Int), k + 3 * (i : Int) + 1, k + 3 * (i : Int) + 1 + 1)
theorem mk3_length (k : Int) (n : Nat) : (mk3 k n).length = n := by simp [mk3]
theorem mk3_get (k : Int) (n i : Nat) (h : i < n) : (mk3 k n).getD i (0, 0, 0) = (k + 3 * (i : Int), k + 3 * (i : Int) + 1, k + 3 * (i : Int) + 1 + 1) := by simp [mk3, h]
def mkd3 (k : Int) (rs : List (Int × Int × Int)) (j : Nat) : List (Int × Int × Int) := mk3 k j ++ rs.drop j
theorem mkd3_zero (k : Int) (rs : List (Int × Int × Int)) : mkd3 k rs 0 = rs := by simp [mkd3, mk3]
theorem mkd3_end (k : Int) (rs : List (Int × Int × Int)) : mkd3 k rs rs.length = mk3 k rs.length := by simp [mkd3]
theorem mkd3_length (k : Int) (rs : List (Int × Int × Int)) (j : Nat) (h : j ≤ rs.length) : (mkd3 k rs j).length = rs.length := by simp [mkd3, mk3_length]; omega
theorem mkd3_step (k : Int) (rs : List (Int × Int × Int)) (j : Nat) (h : j < rs.length) : (mkd3 k rs j).set j (k + 3 * (j : Int), k + 3 * (j : Int) + 1, k + 3 * (j : Int) + 1 + 1) = mkd3 k rs (j + 1) := by
  unfold mkd3
  rw [List.set_append_right _ _ (by rw [mk3_length]; omega), mk3_length, Nat.sub_self, List.drop_eq_getElem_cons h, List.set_cons_zero]
  simp [mk3, List.range_succ]

set_option maxHeartbeats 1000000 in
theorem markRunS_any (lo hi : Nat) (v : Value) (rs : List (Int × Int × Int)) (k : Int) (w : World) (hv : ROwn lo hi w v rs) (hk : 0 ≤ k) (hn : k + 3 * rs.length ≤ 9223372036854775806) :
    Calls Tryd.prog 55 #[v, .int .i64 k] w fun e w' => e = .returned (.int .i64 (k + 3 * rs.length)) ∧ ROwn lo hi w' v (mk3 k rs.length) ∧ Upd lo hi w w' := by
  obtain ⟨a, cap, rfl⟩ := hv.form
  by_cases hz : 0 < rs.length
  · have hv0 := hv
    obtain ⟨_, _, he, hc⟩ := hv0
    simp only [Value.slice.injEq, true_and] at he
    obtain ⟨rfl, rfl⟩ := he
    obtain ⟨b, off, rfl, h1, h2, -⟩ := hc hz
    clear hc
    go_enter Tryd.func55, Tryd.ntmps55
    go_wp2
    go_loopw [1, 5] (fun q i wr => ∃ j : Nat, j ≤ rs.length ∧ i = .int .i64 j ∧ q = .int .i64 (k + 3 * j) ∧ ROwn lo hi wr (.slice (some ⟨b, off, none⟩) rs.length cap) (mkd3 k rs j) ∧ Upd lo hi w wr) (fun _ i _ => rs.length - (intOf i).toNat)
    case atStart => exact ⟨0, Nat.zero_le _, rfl, by simp, by rw [mkd3_zero]; exact hv, Upd.refl _ _ _⟩
    case round =>
      obtain ⟨j, hj, rfl, rfl, ho, hu⟩ := hrel
      by_cases hlt : j < rs.length
      · have hst := ho.stored j hlt (k + 3 * (j : Int)) (k + 3 * (j : Int) + 1) (k + 3 * (j : Int) + 1 + 1)
        rw [mkd3_step k rs j hlt] at hst
        obtain ⟨e1, e2, e3, f1, f2, f3⟩ : wr.cell? ⟨b, off + j * 3, none⟩ = some (.int .i64 ((mkd3 k rs j).getD j (0, 0, 0)).1) ∧ wr.cell? ⟨b, off + j * 3 + 1, none⟩ = some (.int .i64 ((mkd3 k rs j).getD j (0, 0, 0)).2.1) ∧ wr.cell? ⟨b, off + j * 3 + 2, none⟩ = some (.int .i64 ((mkd3 k rs j).getD j (0, 0, 0)).2.2) ∧ wr.frozen? ⟨b, off + j * 3, none⟩ = false ∧ wr.frozen? ⟨b, off + j * 3 + 1, none⟩ = false ∧ wr.frozen? ⟨b, off + j * 3 + 2, none⟩ = false := by
          obtain ⟨_, _, hv', hc'⟩ := ho
          simp only [Value.slice.injEq] at hv'
          obtain ⟨rfl, _, rfl⟩ := hv'
          have hlen := mkd3_length k rs j hj
          obtain ⟨b', off', ha', _, _, _, hf, hcell⟩ := hc' (by omega)
          simp only [Option.some.injEq, Addr.mk.injEq, and_true] at ha'
          obtain ⟨rfl, rfl⟩ := ha'
          obtain ⟨g1, g2, g3⟩ := hcell j (by omega)
          exact ⟨g1, g2, g3, hf _, hf _, hf _⟩
        have hu2 := hu.trans hst.2
        have ho2 := hst.1
        have HO : Hid _ := ho2
        have HU : Hid _ := hu2
        have hb1 : k + 3 * (j : Int) + 3 ≤ 9223372036854775806 := by omega
        generalize (mkd3 k rs j).getD j (0, 0, 0) = p at *
        clear hst ho hu hu2 ho2
        go_wp2
        go_roundw
        case rel => exact ⟨j + 1, by omega, by go_num, by go_num, HO.out, HU.out⟩
        case measure => simp [intOf]; omega
      · have hje : rs.length = j := by omega
        have ho2 : ROwn lo hi wr (.slice (some ⟨b, off, none⟩) rs.length cap) (mk3 k rs.length) := by rw [← mkd3_end, hje]; rw [hje] at ho; exact ho
        have HJ : Hid (rs.length = j) := hje
        clear ho hje
        go_wp2
        go_ret
        exact ⟨by rw [HJ.out]; rfl, ho2, hu⟩
  · have hz0 : rs = [] := List.eq_nil_of_length_eq_zero (by omega)
    subst hz0
    go_enter Tryd.func55, Tryd.ntmps55
    go_wp2
    go_loopw [1, 5] (fun q i wr => i = .int .i64 0 ∧ q = .int .i64 k ∧ w = wr) (fun _ _ _ => 0)
    case atStart => exact ⟨rfl, rfl, rfl⟩
    case round =>
      obtain ⟨rfl, rfl, rfl⟩ := hrel
      go_wp2
      go_ret
      exact ⟨by simp, hv, Upd.refl _ _ _⟩

set_option maxHeartbeats 1000000 in
theorem heldRunS_any (v : Value) (k : Int) (n : Nat) (w : World) (hv : RRead w v (mk3 k n)) (hk : 0 ≤ k) (hn : k + 3 * n ≤ 9223372036854775806) :
    Calls Tryd.prog 72 #[v, .int .i64 k] w fun e w' => e = .returned (.int .i64 (k + 3 * n)) ∧ w = w' := by
  obtain ⟨a, cap, rfl, hc⟩ := hv
  rw [mk3_length] at hc
  rw [mk3_length]
  by_cases hz : 0 < n
  · obtain ⟨b, off, rfl, hcell⟩ := hc hz
    clear hc
    go_enter Tryd.func72, Tryd.ntmps72
    go_wp2
    go_loop [1, 5] (fun q i => ∃ j : Nat, j ≤ n ∧ i = .int .i64 j ∧ q = .int .i64 (k + 3 * j)) (fun _ i => n - (intOf i).toNat)
    case atStart => exact ⟨0, Nat.zero_le _, rfl, by simp⟩
    case round =>
      obtain ⟨j, hj, rfl, rfl⟩ := hrel
      by_cases hlt : j < n
      · obtain ⟨g1, g2, g3⟩ := hcell j hlt
        rw [mk3_get k n j hlt] at g1 g2 g3
        simp only at g1 g2 g3
        have hb1 : k + 3 * (j : Int) + 3 ≤ 9223372036854775806 := by omega
        clear hcell
        go_wp2
        go_round
        case rel => exact ⟨j + 1, by omega, by go_num, by go_num⟩
        case measure => simp [intOf]; omega
      · have HJ : Hid (n = j) := (by omega : n = j)
        clear hcell
        go_wp2
        go_ret
        exact ⟨by rw [HJ.out]; rfl, rfl⟩
  · have hz0 : n = 0 := by omega
    subst hz0
    clear hc
    go_enter Tryd.func72, Tryd.ntmps72
    go_wp2
    go_loop [1, 5] (fun q i => i = .int .i64 0 ∧ q = .int .i64 k) (fun _ _ => 0)
    case atStart => exact ⟨rfl, rfl⟩
    case round =>
      obtain ⟨rfl, rfl⟩ := hrel
      go_wp2
      go_ret
      exact ⟨by simp, rfl⟩
end Go.Proofs.YtlndpbebenecgaaDoor
