import Derived.Test.YthcflbidjlediaaCls
namespace Go.Proofs.Ythcflbidjlediaa
open Go.RowKit

set_option maxHeartbeats 1000000 in
theorem implClassify_no (a a' : Option Addr) (c c' : Nat) (zs ys : List Int) (w : World) (hv : Nts w (.slice a zs.length c) zs) (hv' : Nts w (.slice a' ys.length c') ys) (hz : zs.length ≤ 1048576) (hy : ys.length ≤ 1048576) (hok : chk [zs, ys] ≠ 0) :
    Calls Try.prog 15 #[.slice a zs.length c, .slice a' ys.length c'] w fun e w' => e = .returned (.tuple #[.slice none 0 0, .int .i64 (chk [zs, ys])]) ∧ Below w.heap.size w w' := by
  have hne : (chk [zs, ys] != 0) = true := by simpa using hok
  go_enter Try.func15, Try.ntmps15
  go_wp2_with fail
  refine (checkCounts_any _ [zs, ys] _ (LRd.two hv hv' _ _ rfl) (by simp) (by simp) (two_small hz hy)).mono ?_
  rintro e w1 ⟨rfl, rfl⟩
  clear hok hv hv'
  go_wp2
  refine bodyPost_ret (v := .tuple #[.slice none 0 0, .int .i64 (chk [zs, ys])]) (by simp [results, Try.results15, go_sem]) rfl ⟨rfl, belowA _ _⟩

set_option maxHeartbeats 1000000 in
theorem specClassify_no (a a' : Option Addr) (c c' : Nat) (zs ys : List Int) (w : World) (hv : Nts w (.slice a zs.length c) zs) (hv' : Nts w (.slice a' ys.length c') ys) (hz : zs.length ≤ 1048576) (hy : ys.length ≤ 1048576) (hok : chk [zs, ys] ≠ 0) :
    Calls Try.prog 14 #[.slice a zs.length c, .slice a' ys.length c'] w fun e w' => e = .returned (.tuple #[.slice none 0 0, .int .i64 (chk [zs, ys])]) ∧ Below w.heap.size w w' := by
  have hne : (chk [zs, ys] != 0) = true := by simpa using hok
  go_enter Try.func14, Try.ntmps14
  go_wp2_with fail
  refine (l3CheckTwo_any _ _ zs ys _ hv hv' hz hy).mono ?_
  rintro e w1 ⟨rfl, hb⟩
  clear hok hv hv'
  go_wp2
  refine bodyPost_ret (v := .tuple #[.slice none 0 0, .int .i64 (chk [zs, ys])]) (by simp [results, Try.results14, go_sem]) rfl ⟨rfl, hb⟩

set_option maxHeartbeats 2000000 in
theorem specClassify_yes (a a' : Option Addr) (c c' : Nat) (zs ys : List Int) (w : World) (hv : Nts w (.slice a zs.length c) zs) (hv' : Nts w (.slice a' ys.length c') ys) (hok : chk [zs, ys] = 0) :
    Calls Try.prog 14 #[.slice a zs.length c, .slice a' ys.length c'] w fun e w' => ∃ u, e = .returned (.tuple #[u, .int .i64 0]) ∧ Own64 w.heap.size w'.heap.size w' u (clsL zs ys zs.length) ∧ Below w.heap.size w w' := by
  obtain ⟨hl, hc1, hc2⟩ := chk_two_ok hok
  have hz := (chk_ok hc1).1
  have hy := (chk_ok hc2).1
  have HL : Hid (zs.length = ys.length) := hl
  have hs1 := hv.shape
  have hs2 := hv'.shape
  obtain ⟨_, _, he1, hs1⟩ := hs1
  obtain ⟨_, _, he2, hs2⟩ := hs2
  simp only [Value.slice.injEq, true_and] at he1 he2
  obtain ⟨rfl, rfl⟩ := he1
  obtain ⟨rfl, rfl⟩ := he2
  obtain ⟨b, off, rfl, hcell⟩ := hs1 (by omega)
  obtain ⟨b', off', rfl, hcell'⟩ := hs2 (by omega)
  have hbw : b < w.heap.size := World.block_lt_of_cell? _ _ (hcell 0 (by omega))
  have hbw' : b' < w.heap.size := World.block_lt_of_cell? _ _ (hcell' 0 (by omega))
  clear hc1 hc2 hl hs1 hs2
  go_enter Try.func14, Try.ntmps14
  go_wp2_with fail
  refine (l3CheckTwo_any _ _ zs ys _ hv hv' (by omega) (by omega)).mono ?_
  rintro e w1 ⟨rfl, hb1⟩
  rw [hok]
  have hw1 := hb1.size
  clear hok
  go_wp2
  go_loopw [7, 8] (fun u i wr => ∃ k : Nat, k ≤ zs.length ∧ i = .int .i64 k ∧ Row64 w.heap.size wr u (clsL zs ys k) ∧ Below w.heap.size w wr) (fun _ i _ => zs.length - (intOf i).toNat)
  case atStart => exact ⟨0, Nat.zero_le _, rfl, Row64.lit _ _ hw1 _ rfl, hb1.alloc hw1 _⟩
  case round =>
    obtain ⟨k, hk, rfl, hown, hb⟩ := hrel
    obtain ⟨ua, uc, hua⟩ := hown.shape
    subst hua
    have hsz := hb.size
    have hfl : (clsL zs ys k).length < 8589934592 := by rw [clsL_length]; omega
    by_cases hlt : k < zs.length
    · have hlt' : k < ys.length := by rw [← HL.out]; exact hlt
      have hi : (k : Int) < (zs.length : Int) := by omega
      have hi' : (k : Int) < (ys.length : Int) := by omega
      have g1 : wr.cell? ⟨b, off + k, none⟩ = some (.int .i64 (zs.getD k 0)) := (hb.cell (p := ⟨b, off + k, none⟩) hbw).trans (hcell k hlt)
      have g2 : wr.cell? ⟨b', off' + k, none⟩ = some (.int .i64 (ys.getD k 0)) := (hb.cell (p := ⟨b', off' + k, none⟩) hbw').trans (hcell' k hlt')
      have HF : Hid (clsL zs ys (k + 1) = clsL zs ys k ++ [cls k (zs.getD k 0) (ys.getD k 0)]) := clsL_snoc zs ys k
      have HC : Hid (cls k (zs.getD k 0) (ys.getD k 0) = if k < 2 then 1 else if 0 < zs.getD k 0 then 2 else if 0 < ys.getD k 0 then 3 else 4) := rfl
      generalize zs.getD k 0 = x at *
      generalize ys.getD k 0 = y at *
      clear hcell hcell' HL hv hv'
      by_cases h1 : k < 2
      · rw [HC.out, if_pos h1] at HF
        by_cases hx : 0 < x <;> by_cases hy : 0 < y <;>
          (go_wp2_with (first | (at_builtin; refine wpList_append64 rfl _ _ rfl _ hown rfl rfl hfl hsz ?_; intro v' w1 hown1 hbel1 hsz1 hgr1) | go_in)
           rw [← HF.out] at hown1
           go_roundw
           case rel => exact ⟨k + 1, by omega, by go_num, hown1, hb.trans hbel1⟩
           case measure => simp [intOf]; omega)
      · rw [HC.out, if_neg h1] at HF
        by_cases hx : 0 < x
        · rw [if_pos hx] at HF
          by_cases hy : 0 < y <;>
          (go_wp2_with (first | (at_builtin; refine wpList_append64 rfl _ _ rfl _ hown rfl rfl hfl hsz ?_; intro v' w1 hown1 hbel1 hsz1 hgr1) | go_in)
           rw [← HF.out] at hown1
           go_roundw
           case rel => exact ⟨k + 1, by omega, by go_num, hown1, hb.trans hbel1⟩
           case measure => simp [intOf]; omega)
        · rw [if_neg hx] at HF
          by_cases hy : 0 < y
          · rw [if_pos hy] at HF
            go_wp2_with (first | (at_builtin; refine wpList_append64 rfl _ _ rfl _ hown rfl rfl hfl hsz ?_; intro v' w1 hown1 hbel1 hsz1 hgr1) | go_in)
            rw [← HF.out] at hown1
            go_roundw
            case rel => exact ⟨k + 1, by omega, by go_num, hown1, hb.trans hbel1⟩
            case measure => simp [intOf]; omega
          · rw [if_neg hy] at HF
            go_wp2_with (first | (at_builtin; refine wpList_append64 rfl _ _ rfl _ hown rfl rfl hfl hsz ?_; intro v' w1 hown1 hbel1 hsz1 hgr1) | go_in)
            rw [← HF.out] at hown1
            go_roundw
            case rel => exact ⟨k + 1, by omega, by go_num, hown1, hb.trans hbel1⟩
            case measure => simp [intOf]; omega
    · have hke : k = zs.length := by omega
      subst hke
      have ho := hown.own (clsL_small zs ys zs.length)
      clear hcell hcell' hown
      go_wp2
      refine bodyPost_ret (v := .tuple #[.slice ua (clsL zs ys zs.length).length uc, .int .i64 0]) (by simp [results, Try.results14, go_sem]) rfl ⟨_, rfl, ho, hb⟩
end Go.Proofs.Ythcflbidjlediaa
