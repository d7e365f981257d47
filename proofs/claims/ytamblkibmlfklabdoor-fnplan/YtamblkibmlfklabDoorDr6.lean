import Derived.Test.YtamblkibmlfklabDoorDr5
import Derived.Test.YtamblkibmlfklabDoorLawPlan
namespace Go.Proofs.YtamblkibmlfklabDoor
open Go.RowKit
set_option linter.unusedVariables false

theorem Src.begun {a : Option Addr} {c : Nat} {zs : List Int} {w w1 : World} (hv : Bts w (.slice a zs.length c) zs) (hl : zs.length ≤ 1048576) (hb : Below w.heap.size w w1) (s : Int) (t : TypeId) : Src w.heap.size w1.heap.size a c zs (w1.alloc (.cells #[.slice a zs.length c, .int .i64 0, .int .u64 s] t)) := by
  have hA : Below w1.heap.size w1 (w1.alloc (.cells #[.slice a zs.length c, .int .i64 0, .int .u64 s] t)) := (Below.refl _ _).alloc (Nat.le_refl _) _
  refine ⟨(hv.below hb).below hA, fun hp b off e => ?_, hb.size, hl, 0, s, Nat.zero_le _, ?_, ?_, ?_, ?_, ?_, ?_⟩
  · obtain ⟨_, _, he, hc⟩ := hv.shape
    simp only [Value.slice.injEq, true_and] at he
    obtain ⟨rfl, rfl⟩ := he
    obtain ⟨b', off', ha, hcell⟩ := hc hp
    rw [e] at ha
    simp only [Option.some.injEq, Addr.mk.injEq, and_true] at ha
    obtain ⟨rfl, rfl⟩ := ha
    exact World.block_lt_of_cell? _ _ (hcell 0 hp)
  · rw [World.cell?_alloc_at _ _ _ _ rfl]; rfl
  · rw [World.cell?_alloc_at _ _ _ _ rfl]; rfl
  · rw [World.cell?_alloc_at _ _ _ _ rfl]; rfl
  · rw [World.frozen?_alloc_at _ _ _ _ rfl]
  · rw [World.frozen?_alloc_at _ _ _ _ rfl]
  · rw [World.frozen?_alloc_at _ _ _ _ rfl]

set_option maxHeartbeats 2000000 in
theorem drawPlan_any (a : Option Addr) (c : Nat) (zs : List Int) (w : World) (hv : Bts w (.slice a zs.length c) zs) (hl : zs.length ≤ 1048576) :
    Calls Tryd.prog 4 #[.slice a zs.length c] w fun e w' => ∃ u v xs ys, e = .returned (.tuple #[u, v]) ∧ xs.length ≤ 513 ∧ ys.length ≤ 513 ∧ Nts w' u xs ∧ Nts w' v ys ∧ Below w.heap.size w w' := by
  go_enter Tryd.func4, Tryd.ntmps4
  go_wp2_with fail
  refine (l1Begin_any a c zs w hv hl).mono ?_
  rintro e w1 ⟨⟨s, rfl⟩, hb1⟩
  have hS := Src.begun hv hl hb1 s 42
  have hsz := hb1.size
  have hbA := hb1.alloc hb1.size (.cells #[.slice a zs.length c, .int .i64 0, .int .u64 s] 42)
  clear hv
  go_wp2_with fail
  refine (l3DrawTwo_any w.heap.size w1.heap.size a c zs _ hS).mono ?_
  rintro e w2 ⟨u, v, xs, ys, rfl, e1, e2, e3, e4, hF⟩
  have hB : Below w.heap.size w w2 := hbA.trans (hF.below (by simp; omega) fun b e => by
    rcases e with e | e
    · omega
    · simp at e; omega)
  clear hS hF hb1 hbA
  go_wp2
  exact bodyPost_ret (v := .tuple #[u, v]) (by simp [results, Tryd.results4, go_sem]) rfl ⟨u, v, xs, ys, rfl, e1, e2, e3, e4, hB⟩

set_option maxHeartbeats 2000000 in
theorem copyNums_any (v : Value) (zs : List Int) (w : World) (hv : Nts w v zs) (hl : zs.length ≤ 1048576) :
    Calls Tryd.prog 7 #[v] w fun e w' => ∃ u cap, e = .returned (.slice u zs.length cap) ∧ Own64 w.heap.size w'.heap.size w' (.slice u zs.length cap) zs ∧ Below w.heap.size w w' := by
  obtain ⟨a, c, rfl, hc⟩ := hv.shape
  have hsm := hv.small
  go_enter Tryd.func7, Tryd.ntmps7
  go_wp2
  go_loopw [3, 4] (fun u i w2 => ∃ j : Nat, j ≤ zs.length ∧ i = .int .i64 j ∧ Row64 w.heap.size w2 u (zs.take j) ∧ Below w.heap.size w w2) (fun _ i _ => zs.length - (intOf i).toNat)
  case atStart => exact ⟨0, Nat.zero_le _, rfl, Row64.lit _ _ (Nat.le_refl _) _ rfl, belowA _ _⟩
  case round =>
    obtain ⟨j, hj, rfl, hown, hb2⟩ := hrel
    obtain ⟨w2, rfl⟩ : ∃ w2, w2 = wr := ⟨wr, rfl⟩
    obtain ⟨ua, uc, hua⟩ := hown.shape
    have htl : (zs.take j).length = j := by simp; omega
    rw [htl] at hua
    subst hua
    have hsz2 := hb2.size
    by_cases hlj : j < zs.length
    · obtain ⟨b, off, rfl, hcell⟩ := hc (by omega)
      have hbw : b < w.heap.size := World.block_lt_of_cell? _ _ (hcell 0 (by omega))
      have g1 : w2.cell? ⟨b, off + j, none⟩ = some (.int .i64 (zs.getD j 0)) := (hb2.cell (p := ⟨b, off + j, none⟩) hbw).trans (hcell j hlj)
      have hi : (j : Int) < (zs.length : Int) := by omega
      have HT : Hid (zs.take (j + 1) = zs.take j ++ [zs.getD j 0]) := take_all zs j hlj
      have hfl2 : (zs.take j).length < 8589934592 := by omega
      generalize zs.getD j 0 = z at *
      clear htl hc hcell hv
      go_wp2_with (first | (at_builtin; refine wpList_append64 rfl _ _ rfl _ hown rfl rfl hfl2 hsz2 ?_; intro v' w3 hown1 hbel1 hsz3 hgr1) | go_in)
      rw [← HT.out] at hown1
      go_roundw
      case rel => exact ⟨j + 1, by omega, by go_num, hown1, hb2.trans hbel1⟩
      case measure => simp [intOf]; omega
    · have hje : j = zs.length := by omega
      have hi : ¬ (j : Int) < (zs.length : Int) := by omega
      have hO2 : Own64 w.heap.size w2.heap.size w2 (.slice ua zs.length uc) zs := by
        have h := hown.own (take_small hsm j)
        rw [hje, List.take_length] at h
        exact h
      clear hown htl hlj hj hc hv
      subst hje
      go_wp2
      exact bodyPost_ret (v := .slice ua zs.length uc) (by simp [results, Tryd.results7, go_sem]) rfl ⟨ua, uc, rfl, hO2, hb2⟩

set_option maxHeartbeats 2000000 in
theorem lRuns_any (a a' : Option Addr) (c c' : Nat) (rs : List R3) (w : World) (hv : RRead w (.slice a rs.length c) rs) (hv' : RRead w (.slice a' rs.length c') rs) (hn : rs.length ≤ 1048576) :
    Calls Tryd.prog 13 #[.slice a rs.length c, .slice a' rs.length c'] w fun e w' => e = .returned (.bool true) ∧ Below w.heap.size w w' := by
  go_enter Tryd.func13, Tryd.ntmps13
  go_wp2
  go_loopw [5] (fun i wr => ∃ j : Nat, j ≤ rs.length ∧ i = .int .i64 j ∧ Below w.heap.size w wr) (fun i _ => rs.length - (intOf i).toNat)
  case atStart => exact ⟨0, Nat.zero_le _, rfl, Below.refl _ _⟩
  case round =>
    obtain ⟨j, hj, rfl, hb⟩ := hrel
    by_cases hlt : j < rs.length
    · have hi : (j : Int) < (rs.length : Int) := by omega
      obtain ⟨_, _, he, hc⟩ := hv
      simp only [Value.slice.injEq, true_and] at he
      obtain ⟨rfl, rfl⟩ := he
      obtain ⟨_, _, he, hc'⟩ := hv'
      simp only [Value.slice.injEq, true_and] at he
      obtain ⟨rfl, rfl⟩ := he
      obtain ⟨b, off, rfl, hcell⟩ := hc (by omega)
      obtain ⟨b', off', rfl, hcell'⟩ := hc' (by omega)
      obtain ⟨g1, g2, g3⟩ := hcell j hlt
      obtain ⟨k1, k2, k3⟩ := hcell' j hlt
      have hbw : b < w.heap.size := World.block_lt_of_cell? _ _ g1
      have hbw' : b' < w.heap.size := World.block_lt_of_cell? _ _ k1
      rw [← hb.cell (p := ⟨b, off + j * 3, none⟩) hbw] at g1
      rw [← hb.cell (p := ⟨b, off + j * 3 + 1, none⟩) hbw] at g2
      rw [← hb.cell (p := ⟨b, off + j * 3 + 2, none⟩) hbw] at g3
      rw [← hb.cell (p := ⟨b', off' + j * 3, none⟩) hbw'] at k1
      rw [← hb.cell (p := ⟨b', off' + j * 3 + 1, none⟩) hbw'] at k2
      rw [← hb.cell (p := ⟨b', off' + j * 3 + 2, none⟩) hbw'] at k3
      generalize rs.getD j (0, 0, 0) = r at g1 g2 g3 k1 k2 k3
      obtain ⟨x, y, z⟩ := r
      simp only at g1 g2 g3 k1 k2 k3
      clear hc hc' hcell hcell'
      go_wp2
      go_region_held3 (fun w' => w'.cell? ⟨b, off + j * 3, none⟩ = some (.int .i64 x) ∧ w'.cell? ⟨b, off + j * 3 + 1, none⟩ = some (.int .i64 y) ∧ w'.cell? ⟨b, off + j * 3 + 2, none⟩ = some (.int .i64 z) ∧ w'.cell? ⟨b', off' + j * 3, none⟩ = some (.int .i64 x) ∧ w'.cell? ⟨b', off' + j * 3 + 1, none⟩ = some (.int .i64 y) ∧ w'.cell? ⟨b', off' + j * 3 + 2, none⟩ = some (.int .i64 z)) (first | go_keep | assumption | exact ⟨g1, g2, g3, k1, k2, k3⟩) (fail)
      go_wp2
      go_roundw
      case rel => exact ⟨j + 1, by omega, by go_num, hb.drew⟩
      case measure => simp [intOf]; omega
    · have hi : ¬ (j : Int) < (rs.length : Int) := by omega
      go_wp2
      go_ret
      exact ⟨rfl, hb⟩
end Go.Proofs.YtamblkibmlfklabDoor
