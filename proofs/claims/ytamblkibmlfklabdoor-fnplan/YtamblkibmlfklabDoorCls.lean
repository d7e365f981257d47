import Derived.Test.YtamblkibmlfklabDoorChk3
import Derived.Test.YtamblkibmlfklabDoorCt7
import Derived.Deep.RegionHeld3
namespace Go.Proofs.YtamblkibmlfklabDoor
open Go.RowKit

/-- a block's class -/
def cls (i : Nat) (x y : Int) : Int := if i < 2 then 1 else if 0 < x then 2 else if 0 < y then 3 else 4
def clsL (zs ys : List Int) (n : Nat) : List Int := (List.range n).map fun i => cls i (zs.getD i 0) (ys.getD i 0)
theorem cls_small (i : Nat) (x y : Int) : 1 ≤ cls i x y ∧ cls i x y ≤ 4 := by unfold cls; repeat' split <;> omega
theorem clsL_length (zs ys : List Int) (n : Nat) : (clsL zs ys n).length = n := by simp [clsL]
theorem clsL_small (zs ys : List Int) (n i : Nat) : -9223372036854775808 ≤ (clsL zs ys n).getD i 0 ∧ (clsL zs ys n).getD i 0 ≤ 9223372036854775807 := by
  by_cases hi : i < n
  · have := cls_small i (zs.getD i 0) (ys.getD i 0)
    simp only [clsL, List.getD_eq_getElem?_getD, List.getElem?_map, List.getElem?_range hi, Option.map_some, Option.getD_some] at this ⊢
    omega
  · simp [clsL, hi]
theorem clsL_snoc (zs ys : List Int) (n : Nat) : clsL zs ys (n + 1) = clsL zs ys n ++ [cls n (zs.getD n 0) (ys.getD n 0)] := by simp [clsL, List.range_succ]
theorem clsL_get (zs ys : List Int) (n k : Nat) (h : k < n) : (clsL zs ys n).getD k 0 = cls k (zs.getD k 0) (ys.getD k 0) := by simp [clsL, h]

set_option maxHeartbeats 400000 in
theorem classOf_any (i : Nat) (x y : Int) (w : World) (hi : i ≤ 1048576) :
    Calls Tryd.prog 26 #[.int .i64 i, .int .i64 x, .int .i64 y] w fun e w' => e = .returned (.int .i64 (cls i x y)) ∧ w = w' := by
  have HC : Hid (cls i x y = if i < 2 then 1 else if 0 < x then 2 else if 0 < y then 3 else 4) := rfl
  by_cases h1 : i < 2
  · rw [HC.out, if_pos h1]
    go_enter Tryd.func26, Tryd.ntmps26
    go_wp2
    go_ret
    exact ⟨rfl, rfl⟩
  · rw [HC.out, if_neg h1]
    by_cases h2 : 0 < x
    · rw [if_pos h2]
      go_enter Tryd.func26, Tryd.ntmps26
      go_wp2
      go_ret
      exact ⟨rfl, rfl⟩
    · rw [if_neg h2]
      by_cases h3 : 0 < y
      · rw [if_pos h3]
        go_enter Tryd.func26, Tryd.ntmps26
        go_wp2
        go_ret
        exact ⟨rfl, rfl⟩
      · rw [if_neg h3]
        go_enter Tryd.func26, Tryd.ntmps26
        go_wp2
        go_ret
        exact ⟨rfl, rfl⟩

/-- the first k classes, then noughts -/
def clsP (zs ys : List Int) (n k : Nat) : List Int := clsL zs ys k ++ List.replicate (n - k) 0
theorem clsP_length (zs ys : List Int) (n k : Nat) (h : k ≤ n) : (clsP zs ys n k).length = n := by simp [clsP, clsL_length]; omega
theorem clsP_step (zs ys : List Int) (n k : Nat) (h : k < n) : (clsP zs ys n k).set k (cls k (zs.getD k 0) (ys.getD k 0)) = clsP zs ys n (k + 1) := by
  unfold clsP
  rw [clsL_snoc, List.set_append_right _ _ (by rw [clsL_length]; omega), clsL_length, Nat.sub_self, show n - k = (n - (k + 1)) + 1 by omega, List.replicate_succ, List.set_cons_zero]
  simp
theorem clsP_end (zs ys : List Int) (n : Nat) : clsP zs ys n n = clsL zs ys n := by simp [clsP]
theorem clsP_zero (zs ys : List Int) (n : Nat) : clsP zs ys n 0 = List.replicate n 0 := by simp [clsP, clsL]

set_option maxRecDepth 100000 in
set_option maxHeartbeats 2000000 in
theorem implClassify_yes (a a' : Option Addr) (c c' : Nat) (zs ys : List Int) (w : World) (hv : Nts w (.slice a zs.length c) zs) (hv' : Nts w (.slice a' ys.length c') ys) (hok : chk [zs, ys] = 0) :
    Calls Tryd.prog 10 #[.slice a zs.length c, .slice a' ys.length c'] w fun e w' => ∃ u, e = .returned (.tuple #[u, .int .i64 0]) ∧ Own64 w.heap.size w'.heap.size w' u (clsL zs ys zs.length) ∧ Below w.heap.size w w' := by
  obtain ⟨hl, hc1, hc2⟩ := chk_two_ok hok
  have hz := (chk_ok hc1).1
  have hy := (chk_ok hc2).1
  have HL : Hid (zs.length = ys.length) := hl
  have hs1 := hv.shape
  have hs2 := hv'.shape
  obtain ⟨_, _, he1, hs1⟩ := hs1
  obtain ⟨_, _, he2, hs2⟩ := hs2
  simp only [Value.slice.injEq, true_and] at he1 he2
  obtain ⟨rfl, rfl⟩ := he1
  obtain ⟨rfl, rfl⟩ := he2
  obtain ⟨b, off, rfl, hcell⟩ := hs1 (by omega)
  obtain ⟨b', off', rfl, hcell'⟩ := hs2 (by omega)
  have hbw : b < w.heap.size := World.block_lt_of_cell? _ _ (hcell 0 (by omega))
  have hbw' : b' < w.heap.size := World.block_lt_of_cell? _ _ (hcell' 0 (by omega))
  have hmk := run_make_row' (P := Tryd.prog) 23 2 (.int .i64 0) 8 Tryd.underlying23 info64 rfl .i64 .i64 zs.length (by omega) (by omega)
  rw [part64_zero] at hmk
  have HM : Hid (part64 zs 0 = i64s (List.replicate zs.length 0)) := by simp [Hid, part64]
  clear hc1 hc2 hl hs1 hs2
  go_enter Tryd.func10, Tryd.ntmps10
  go_wp2_with fail
  refine (checkCounts_any _ [zs, ys] _ (LRd.two hv hv' _ _ rfl) (by simp) (by simp) (two_small (by omega) (by omega))).mono ?_
  rintro e w1 ⟨rfl, rfl⟩
  rw [hok]
  clear hok
  go_wp2
  have hO := Own64.made (w.alloc (.cells #[.slice (some ⟨b, off, none⟩) zs.length c, .slice (some ⟨b', off', none⟩) ys.length c'] 23)) (List.replicate zs.length 0) (zeros_small _) (w.heap.size + 1) (by simp)
  rw [← HM.out, List.length_replicate] at hO
  have hB : Below w.heap.size w ((w.alloc (.cells #[.slice (some ⟨b, off, none⟩) zs.length c, .slice (some ⟨b', off', none⟩) ys.length c'] 23)).alloc (.cells (part64 zs 0) 2)) := ((Below.refl _ _).alloc (Nat.le_refl _) _).alloc (by simp) _
  go_loopw [21] (fun i wr => ∃ k : Nat, k ≤ zs.length ∧ i = .int .i64 k ∧ Own64 (w.heap.size + 1) (w.heap.size + 1 + 1) wr (.slice (some ⟨w.heap.size + 1, 0, none⟩) zs.length zs.length) (clsP zs ys zs.length k) ∧ Below w.heap.size w wr) (fun i _ => zs.length - (intOf i).toNat)
  case atStart => exact ⟨0, Nat.zero_le _, rfl, by rw [clsP_zero]; exact hO, hB⟩
  case round =>
    obtain ⟨k, hk, rfl, ho, hb⟩ := hrel
    clear hmk hO hB HM
    by_cases hlt : k < zs.length
    · have hlt' : k < ys.length := by rw [← HL.out]; exact hlt
      have hi : (k : Int) < (zs.length : Int) := by omega
      have hi' : (k : Int) < (ys.length : Int) := by omega
      have g1 : wr.cell? ⟨b, off + k, none⟩ = some (.int .i64 (zs.getD k 0)) := (hb.cell (p := ⟨b, off + k, none⟩) hbw).trans (hcell k hlt)
      have g2 : wr.cell? ⟨b', off' + k, none⟩ = some (.int .i64 (ys.getD k 0)) := (hb.cell (p := ⟨b', off' + k, none⟩) hbw').trans (hcell' k hlt')
      have hst := ho.stored k hlt (cls k (zs.getD k 0) (ys.getD k 0)) (by have := cls_small k (zs.getD k 0) (ys.getD k 0); omega)
      rw [clsP_step zs ys zs.length k hlt, Nat.zero_add] at hst
      obtain ⟨_, _, he, hs⟩ := ho.shape
      simp only [Value.slice.injEq] at he
      obtain ⟨rfl, hbad, rfl⟩ := he
      clear hbad
      obtain ⟨_, _, he, _, _, h3, hs⟩ := hs (by rw [clsP_length _ _ _ _ hk]; omega)
      simp only [Option.some.injEq, Addr.mk.injEq, and_true] at he
      obtain ⟨rfl, rfl⟩ := he
      obtain ⟨c1, c2⟩ := hs k (by rw [clsP_length _ _ _ _ hk]; omega)
      rw [Nat.zero_add] at c1 c2
      have hne1 : b ≠ w.heap.size + 1 := by omega
      have hne2 : b' ≠ w.heap.size + 1 := by omega
      generalize zs.getD k 0 = x at *
      generalize ys.getD k 0 = y at *
      generalize (clsP zs ys zs.length k).getD k 0 = cv at *
      have HQ : Hid (∀ v, (wr.setCell ⟨w.heap.size + 1, k, none⟩ v).drew.cell? ⟨b, off + k, none⟩ = some (.int .i64 x) ∧ (wr.setCell ⟨w.heap.size + 1, k, none⟩ v).drew.cell? ⟨b', off' + k, none⟩ = some (.int .i64 y)) := fun v =>
        ⟨(World.cell?_setCell_other _ _ _ _ (by intro hh; simp only [Addr.mk.injEq] at hh; omega)).trans g1, (World.cell?_setCell_other _ _ _ _ (by intro hh; simp only [Addr.mk.injEq] at hh; omega)).trans g2⟩
      have HS1 : Hid _ := hst.1
      have HS2 : Hid _ := hst.2
      clear hcell hcell' hs ho hk HL hst hv hv'
      go_wp2_with fail
      go_region_held3 (fun w' => w'.cell? ⟨b, off + k, none⟩ = some (.int .i64 x) ∧ w'.cell? ⟨b', off' + k, none⟩ = some (.int .i64 y)) (first | exact HQ.out _ | go_keep | assumption)
        ((go_at_call 26; refine (classOf_any k x y _ (by omega)).mono ?_; rintro e w1 ⟨rfl, rfl⟩))
      go_wp2
      go_roundw
      case rel => exact ⟨k + 1, by omega, by go_num, HS1.out.below (Below.refl _ _).drew, (hb.trans (HS2.out.below (by omega) (by omega))).drew⟩
      case measure => simp [intOf]; omega
    · have hke : k = zs.length := by omega
      rw [hke, clsP_end] at ho
      have hsz : w.heap.size + 1 + 1 ≤ wr.heap.size := by
        obtain ⟨_, _, he, hs⟩ := ho.shape
        simp only [Value.slice.injEq] at he
        obtain ⟨rfl, _, rfl⟩ := he
        obtain ⟨_, _, he, _, _, h3, _⟩ := hs (by rw [clsL_length]; omega)
        simp only [Option.some.injEq, Addr.mk.injEq, and_true] at he
        obtain ⟨rfl, rfl⟩ := he
        omega
      have ho2 := ho.wider (lo' := w.heap.size) (hi' := wr.heap.size) (by omega) hsz
      clear hcell hcell' ho hk hke hsz
      go_wp2
      refine bodyPost_ret (v := .tuple #[.slice (some ⟨w.heap.size + 1, 0, none⟩) zs.length zs.length, .int .i64 0]) (by simp [results, Tryd.results10, go_sem]) rfl ⟨_, rfl, ho2, hb⟩
end Go.Proofs.YtamblkibmlfklabDoor
