import Derived.Test.YtamblkibmlfklabDoorFr2
namespace Go.Proofs.YtamblkibmlfklabDoor
open Go.RowKit

/-- the free blocks as numbers -/
def frI (zs ys : List Int) (n k : Nat) : List Int := (frs zs ys n k).map fun x => (x.1 : Int)
theorem frI_length (zs ys : List Int) (n k : Nat) : (frI zs ys n k).length ≤ k := by
  simp only [frI, List.length_map]; exact frs_length zs ys n k
theorem frI_small (zs ys : List Int) (n k i : Nat) (hn : n ≤ 1048576) : -9223372036854775808 ≤ (frI zs ys n k).getD i 0 ∧ (frI zs ys n k).getD i 0 ≤ 9223372036854775807 := by
  by_cases hi : i < (frs zs ys n k).length
  · have := (frs zs ys n k)[i].2
    simp only [frI, List.getD_eq_getElem?_getD, List.getElem?_map, List.getElem?_eq_getElem hi, Option.map_some, Option.getD_some]
    omega
  · simp [frI, List.getElem?_eq_none (Nat.le_of_not_lt hi)]

set_option maxHeartbeats 2000000 in
theorem l3Free_any (a a' : Option Addr) (c c' : Nat) (zs ys : List Int) (w : World) (hv : Nts w (.slice a zs.length c) zs) (hv' : Nts w (.slice a' ys.length c') ys) (hl : ys.length = zs.length) (hz : zs.length ≤ 512) (hz8 : 8 ≤ zs.length) :
    Calls Tryd.prog 33 #[.slice a zs.length c, .slice a' ys.length c'] w fun e w' => ∃ u, e = .returned u ∧ Row64 w.heap.size w' u (frI zs ys zs.length zs.length) ∧ Below w.heap.size w w' := by
  obtain ⟨_, _, he, hs⟩ := hv.shape
  simp only [Value.slice.injEq, true_and] at he
  obtain ⟨rfl, rfl⟩ := he
  obtain ⟨b, off, rfl, hcell⟩ := hs (by omega)
  obtain ⟨_, _, he, hs'⟩ := hv'.shape
  simp only [Value.slice.injEq, true_and] at he
  obtain ⟨rfl, rfl⟩ := he
  obtain ⟨b', off', rfl, hcell'⟩ := hs' (by omega)
  have hbw : b < w.heap.size := World.block_lt_of_cell? _ _ (hcell 0 (by omega))
  have hbw' : b' < w.heap.size := World.block_lt_of_cell? _ _ (hcell' 0 (by omega))
  have HL : Hid (ys.length = zs.length) := hl
  clear hl hs hs' hv hv'
  go_enter Tryd.func33, Tryd.ntmps33
  go_wp2
  go_loopw [5, 6] (fun u i wr => ∃ k : Nat, 2 ≤ k ∧ k ≤ zs.length ∧ i = .int .i64 k ∧ Row64 w.heap.size wr u (frI zs ys zs.length k) ∧ Below w.heap.size w wr) (fun _ i _ => zs.length - (intOf i).toNat)
  case atStart => exact ⟨2, Nat.le_refl _, by omega, rfl, Row64.lit _ _ (Nat.le_refl _) _ rfl, belowA _ _⟩
  case round =>
    obtain ⟨k, hk2, hk, rfl, hown, hb⟩ := hrel
    obtain ⟨ua, uc, hua⟩ := hown.shape
    subst hua
    have hsz := hb.size
    have hfl : (frI zs ys zs.length k).length < 8589934592 := by have := frI_length zs ys zs.length k; omega
    by_cases hlt : k < zs.length
    · have g1 : wr.cell? ⟨b, off + k, none⟩ = some (.int .i64 (zs.getD k 0)) := (hb.cell (p := ⟨b, off + k, none⟩) hbw).trans (hcell k hlt)
      have g2 : wr.cell? ⟨b', off' + k, none⟩ = some (.int .i64 (ys.getD k 0)) := (hb.cell (p := ⟨b', off' + k, none⟩) hbw').trans (hcell' k (by rw [HL.out]; exact hlt))
      have hi : (k : Int) < (zs.length : Int) := by omega
      have hi' : (k : Int) < (ys.length : Int) := by rw [HL.out]; omega
      have HF : Hid (isF zs ys k = (zs.getD k 0 == 0 && ys.getD k 0 == 0)) := rfl
      generalize zs.getD k 0 = x at *
      generalize ys.getD k 0 = y at *
      clear hcell hcell'
      by_cases hx : x = 0
      · subst hx
        by_cases hy : y = 0
        · subst hy
          have HFR : Hid (frI zs ys zs.length (k + 1) = frI zs ys zs.length k ++ [(k : Int)]) := by
            unfold frI; rw [frs_yes zs ys _ k ⟨hk2, hlt⟩ (by rw [HF.out]; rfl)]; simp [Hid]
          go_wp2_with (first | (at_builtin; refine wpList_append64 rfl _ _ rfl _ hown rfl rfl hfl hsz ?_; intro v' w1 hown1 hbel1 hsz1 hgr1) | go_in)
          rw [← HFR.out] at hown1
          go_roundw
          case rel => exact ⟨k + 1, by omega, by omega, by go_num, hown1, hb.trans hbel1⟩
          case measure => simp [intOf]; omega
        · have hy' : (y == 0) = false := by simpa using hy
          have HFR : Hid (frI zs ys zs.length (k + 1) = frI zs ys zs.length k) := by
            unfold frI; rw [frs_no zs ys _ k fun e => by have := e.2.2; rw [HF.out, hy'] at this; simp at this]; rfl
          clear hy
          go_wp2
          go_roundw
          case rel => exact ⟨k + 1, by omega, by omega, by go_num, by rw [HFR.out]; exact hown, hb⟩
          case measure => simp [intOf]; omega
      · have hx' : (x == 0) = false := by simpa using hx
        have HFR : Hid (frI zs ys zs.length (k + 1) = frI zs ys zs.length k) := by
          unfold frI; rw [frs_no zs ys _ k fun e => by have := e.2.2; rw [HF.out, hx'] at this; simp at this]; rfl
        clear hx
        go_wp2
        go_roundw
        case rel => exact ⟨k + 1, by omega, by omega, by go_num, by rw [HFR.out]; exact hown, hb⟩
        case measure => simp [intOf]; omega
    · obtain rfl : k = zs.length := by omega
      clear hcell hcell'
      go_wp2
      go_ret
      exact ⟨_, rfl, hown, hb⟩
end Go.Proofs.YtamblkibmlfklabDoor
