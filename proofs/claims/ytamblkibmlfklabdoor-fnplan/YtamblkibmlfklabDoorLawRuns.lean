import Derived.Test.YtamblkibmlfklabDoorRn3
import Derived.Test.YtamblkibmlfklabDoorChk3
namespace Go.Proofs.YtamblkibmlfklabDoor
open Go.RowKit

/-- RunsOf's list -/
def rnA (zs : List Int) : List (Int × Int × Int) := if chk [zs] = 0 then rns zs zs.length else []

theorem rnA_length (zs : List Int) : (rnA zs).length ≤ 512 := by
  unfold rnA
  split
  · rename_i h
    have := (chk_ok h).1
    have := rns_length zs zs.length
    omega
  · simp

set_option maxHeartbeats 1000000 in
theorem implRunsOf_any (a : Option Addr) (c : Nat) (zs : List Int) (w : World) (hv : Nts w (.slice a zs.length c) zs) (hz : zs.length ≤ 1048576) :
    Calls Tryd.prog 8 #[.slice a zs.length c] w fun e w' => ∃ ua uc, e = .returned (.tuple #[.slice ua (rnA zs).length uc, .int .i64 (chk [zs])]) ∧ ROwn w.heap.size w'.heap.size w' (.slice ua (rnA zs).length uc) (rnA zs) ∧ Below w.heap.size w w' := by
  have hb1 := belowA w (.cells #[.slice a zs.length c] 23)
  by_cases h : chk [zs] = 0
  · have e1 : rnA zs = rns zs zs.length := if_pos h
    have hl := (chk_ok h).1
    have H0 : Hid (chk [zs] = 0) := h
    rw [e1]
    go_enter Tryd.func8, Tryd.ntmps8
    go_wp2_with fail
    refine (checkCounts_any _ [zs] _ (LRd.one hv _ _ rfl) (by simp) (by simp) (one_small hz)).mono ?_
    rintro e w1 ⟨rfl, rfl⟩
    rw [h]
    go_wp2_with fail
    refine (runsIn_any _ zs _ (hv.below hb1) (by omega)).mono ?_
    rintro e w2 ⟨u, rfl, hR, hb2⟩
    obtain ⟨ua, uc, rfl⟩ := hR.shape
    have hO := hR.own.wider (lo' := w.heap.size) (hi' := w2.heap.size) (by simp) (Nat.le_refl _)
    have hB := hb1.trans (hb2.mono (by simp))
    clear hR hb1 hb2 hv h
    go_wp2
    exact bodyPost_ret (v := .tuple #[.slice ua (rns zs zs.length).length uc, .int .i64 0]) (by simp [results, Tryd.results8, go_sem]) rfl ⟨ua, uc, by rw [H0.out], hO, hB⟩
  · have e1 : rnA zs = [] := if_neg h
    have hne : (chk [zs] != 0) = true := by simpa using h
    rw [e1]
    go_enter Tryd.func8, Tryd.ntmps8
    go_wp2_with fail
    refine (checkCounts_any _ [zs] _ (LRd.one hv _ _ rfl) (by simp) (by simp) (one_small hz)).mono ?_
    rintro e w1 ⟨rfl, rfl⟩
    clear hv h
    go_wp2
    exact bodyPost_ret (v := .tuple #[.slice none 0 0, .int .i64 (chk [zs])]) (by simp [results, Tryd.results8, go_sem]) rfl ⟨none, 0, rfl, ROwn.empty _ _ _ _ _, hb1⟩

end Go.Proofs.YtamblkibmlfklabDoor
