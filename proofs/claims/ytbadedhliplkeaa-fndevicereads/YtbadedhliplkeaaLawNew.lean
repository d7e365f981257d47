import Derived.Test.YtbadedhliplkeaaNewDev
import Derived.Test.YtbadedhliplkeaaToDev2
namespace Go.Proofs.Ytbadedhliplkeaa
open Go.RowKit

/-- what NewDevice answers -/
def nB (B : Int) : Int := if inB B 8 512 then B else 0
def nz (B : Int) (zs : List Int) : List Int := if inB B 8 512 then filled zs (B * 128).toNat else []
def nc (B : Int) : Int := if inB B 8 512 then 0 else 1

/-- a device value with an empty cache -/
def devV (B : Int) (da : Option Addr) (n dc : Nat) : Value := .agg #[.int .i64 B, .slice da n dc, .slice none 0 0]

theorem nz_length (B : Int) (zs : List Int) : (nz B zs).length ≤ 65536 := by
  unfold nz
  split
  · rename_i h
    simp only [inB, decide_eq_true_eq] at h
    rw [filled_length]; omega
  · simp

theorem specNew_any (B : Int) (v : Value) (zs : List Int) (w : World) (hv : Bts w v zs) (hn : zs.length ≤ 281474976710656) :
    Calls Try.prog 9 #[.int .i64 B, v] w fun e w' => ∃ da dc, e = .returned (.tuple #[devV (nB B) da (nz B zs).length dc, .int .i64 (nc B)]) ∧ DOwn w.heap.size w'.heap.size w' (devV (nB B) da (nz B zs).length dc) (nB B) (nz B zs) [] ∧ Below w.heap.size w w' := by
  by_cases hB : 8 ≤ B ∧ B ≤ 512
  · have hb := inB_true hB
    refine (specNew_yes B v zs w hB hv hn).mono fun e w' hq => ?_
    obtain ⟨u, rfl, ho, hbel⟩ := hq
    have hs := ho.shape
    obtain ⟨da, dc, rfl, -⟩ := hs
    simp only [nB, nz, nc, hb, if_true, devV]
    exact ⟨da, dc, rfl, ⟨da, dc, none, 0, _, _, w'.heap.size, w'.heap.size, rfl, Nat.le_refl _, Nat.le_refl _, hbel.size, Nat.le_refl _, .inl (Nat.le_refl _), ho, POwn.empty _ _ _ _ _⟩, hbel⟩
  · have hb := inB_false hB
    refine (specNew_no B v w hB).mono fun e w' hq => ?_
    obtain ⟨rfl, hbel⟩ := hq
    simp only [nB, nz, nc, hb, devV]
    exact ⟨none, 0, rfl, ⟨none, 0, none, 0, _, _, w'.heap.size, w'.heap.size, rfl, Nat.le_refl _, Nat.le_refl _, hbel.size, Nat.le_refl _, .inl (Nat.le_refl _), Own8.empty _ _ _ _ _, POwn.empty _ _ _ _ _⟩, hbel⟩

theorem implNew_any (B : Int) (v : Value) (zs : List Int) (w : World) (hv : Bts w v zs) (hn : zs.length ≤ 281474976710656) :
    Calls Try.prog 11 #[.int .i64 B, v] w fun e w' => ∃ da dc, e = .returned (.tuple #[devV (nB B) da (nz B zs).length dc, .int .i64 (nc B)]) ∧ DOwn w.heap.size w'.heap.size w' (devV (nB B) da (nz B zs).length dc) (nB B) (nz B zs) [] ∧ Below w.heap.size w w' := by
  by_cases hB : 8 ≤ B ∧ B ≤ 512
  · have hb := inB_true hB
    refine (implNew_yes B v zs w hB hv hn).mono fun e w' hq => ?_
    obtain ⟨u, rfl, ho, hbel⟩ := hq
    have hs := ho.shape
    obtain ⟨da, dc, rfl, -⟩ := hs
    simp only [nB, nz, nc, hb, if_true, devV]
    exact ⟨da, dc, rfl, ⟨da, dc, none, 0, _, _, w'.heap.size, w'.heap.size, rfl, Nat.le_refl _, Nat.le_refl _, hbel.size, Nat.le_refl _, .inl (Nat.le_refl _), ho, POwn.empty _ _ _ _ _⟩, hbel⟩
  · have hb := inB_false hB
    refine (implNew_no B v w hB).mono fun e w' hq => ?_
    obtain ⟨rfl, hbel⟩ := hq
    simp only [nB, nz, nc, hb, devV]
    exact ⟨none, 0, rfl, ⟨none, 0, none, 0, _, _, w'.heap.size, w'.heap.size, rfl, Nat.le_refl _, Nat.le_refl _, hbel.size, Nat.le_refl _, .inl (Nat.le_refl _), Own8.empty _ _ _ _ _, POwn.empty _ _ _ _ _⟩, hbel⟩

set_option maxHeartbeats 2000000 in
theorem newDevice_walk (B : Int) (v : Value) (zs : List Int) (w : World) (hv : Bts w v zs) (hn : zs.length ≤ 1048576) :
    Calls Try.prog 3 #[.int .i64 B, v] w fun e w' => e = .returned (.bool true) ∧ Below w.heap.size w w' := by
  have hsh := hv.shape
  obtain ⟨a, cap, rfl, -⟩ := hsh
  have hzl := nz_length B zs
  have hne : (nc B != nc B) = false := by simp
  have hzz : (nz B zs).length ≤ 281474976710656 := by omega
  have hps : PSmall [] := ⟨by simp, by simp⟩
  go_enter Try.func3, Try.ntmps3
  go_wp2_with fail
  refine (toByteS_any _ zs _ hv (by omega)).mono ?_
  rintro e w' ⟨rfl, rfl⟩
  go_wp2_with fail
  refine (specNew_any B _ zs _ (Bts.made w zs hv.small) (by omega)).mono ?_
  rintro e w2 ⟨wa, wc, rfl, hW, hb2⟩
  have hbel2 : Below w.heap.size w w2 := (belowA w _).trans (hb2.mono (by simp))
  have hv2 := hv.below hbel2
  have hs2 : w.heap.size + 1 ≤ w2.heap.size := by have := hb2.size; simpa using this
  clear hb2
  unfold devV at hW ⊢
  -- x1
  go_wp2_with fail
  have hA3 := Box3.made w2 (.int .i64 (nB B)) (.slice wa (nz B zs).length wc) (.slice none 0 0) 25 _ rfl
  have hb3 := belowA w2 (.cells #[.int .i64 (nB B), .slice wa (nz B zs).length wc, .slice none 0 0] 25)
  refine (toByteS_own _ zs _ (hv2.below hb3) (by omega)).mono ?_
  rintro e w4 ⟨rfl, hX4, hb4⟩
  simp only [World.size_alloc] at hX4
  have hA4 := hA3.below hb4
  have hW4 := (hW.below hb3).below hb4
  have hbel4 : Below w.heap.size w w4 := (hbel2.trans (hb3.mono hbel2.size)).trans (hb4.mono (Nat.le_trans hbel2.size (by simp)))
  have hs4 : w2.heap.size + 1 ≤ w4.heap.size := by have := hb4.size; simpa using this
  have hv4 := hv.below hbel4
  clear hA3 hb3 hb4 hW hv2 hbel2
  -- g0
  go_wp2_with fail
  refine (implNew_any B _ zs _ hX4.bts (by omega)).mono ?_
  rintro e w5 ⟨ga, gc, rfl, hG5, hb5⟩
  have hA5 := hA4.below hb5
  have hW5 := hW4.below hb5
  have hX5 := hX4.below hb5
  have hs5 := hb5.size
  have hbel5 : Below w.heap.size w w5 := hbel4.trans (hb5.mono hbel4.size)
  have hv5 := hv.below hbel5
  clear hA4 hW4 hX4 hb5 hbel4 hv4
  unfold devV at hG5 ⊢
  -- g0 = w0
  have hB6 := Box3.made w5 (.int .i64 (nB B)) (.slice ga (nz B zs).length gc) (.slice none 0 0) 25 _ rfl
  have hb6 := belowA w5 (.cells #[.int .i64 (nB B), .slice ga (nz B zs).length gc, .slice none 0 0] 25)
  have hA6 := hA5.below hb6
  have hW6 := hW5.below hb6
  have hX6 := hX5.below hb6
  have hG6 := hG5.below hb6
  have hv6 := hv5.below hb6
  have hbel6 := hbel5.trans (hb6.mono hbel5.size)
  obtain ⟨a0, a1, a2⟩ := hA5.cells
  have hlt6 := hA5.lt
  clear hA5 hW5 hX5 hG5 hv5 hb6 hbel5
  go_wp2_with fail
  refine (eqDev (nB B) _ _ (nz B zs) [] _ hG6.read hW6.read hzz hps).mono ?_
  rintro e w7 ⟨rfl, hb7⟩
  have hA7 := hA6.below hb7
  have hB7 := hB6.below hb7
  have hW7 := hW6.below hb7
  have hX7 := hX6.below hb7
  have hG7 := hG6.below hb7
  have hbel7 := hbel6.trans (hb7.mono hbel6.size)
  have hv7 := hv.below hbel7
  have hs7 : w5.heap.size + 1 ≤ w7.heap.size := by have := hb7.size; simpa using this
  clear hA6 hB6 hW6 hX6 hG6 hv6 hbel6 hb7 a0 a1 a2
  -- x1 is as it was
  go_wp2_with fail
  refine (toByteS_own _ zs _ hv7 (by omega)).mono ?_
  rintro e w8 ⟨rfl, hY8, hb8⟩
  have hA8 := hA7.below hb8
  have hB8 := hB7.below hb8
  have hW8 := hW7.below hb8
  have hX8 := hX7.below hb8
  have hG8 := hG7.below hb8
  have hbel8 := hbel7.trans (hb8.mono hbel7.size)
  have hs8 := hb8.size
  clear hA7 hB7 hW7 hX7 hG7 hv7 hbel7 hb8
  go_wp2_with fail
  refine (eqByteS_own _ _ zs _ hX8.bts hY8.bts (by omega)).mono ?_
  rintro e w9 ⟨rfl, hb9⟩
  have hA9 := hA8.below hb9
  have hB9 := hB8.below hb9
  have hW9 := hW8.below hb9
  have hX9 := hX8.below hb9
  have hG9 := hG8.below hb9
  have hbel9 := hbel8.trans (hb9.mono hbel8.size)
  have hs9 := hb9.size
  clear hA8 hB8 hW8 hX8 hG8 hY8 hbel8 hb9
  -- x1 is marked
  go_wp2_with fail
  refine (markByteS_any _ _ _ zs 1 _ hX9 (by omega) (by omega)).mono ?_
  rintro e w10 ⟨rfl, -, hu10⟩
  have hA10 := hA9.upd hu10 (by omega)
  have hB10 := hB9.upd hu10 (by omega)
  have hW10 := hW9.upd hu10 (by omega)
  have hG10 := hG9.upd hu10 (by omega)
  have hbel10 := hbel9.trans (hu10.below (by omega) (by omega))
  have hs10 := hu10.size
  obtain ⟨a0, a1, a2⟩ := hA10.cells
  obtain ⟨b0, b1, b2⟩ := hB10.cells
  clear hA9 hB9 hW9 hX9 hG9 hbel9 hu10
  go_wp2_with fail
  refine (eqDev (nB B) _ _ (nz B zs) [] _ hG10.read hW10.read hzz hps).mono ?_
  rintro e w11 ⟨rfl, hb11⟩
  have hA11 := hA10.below hb11
  have hB11 := hB10.below hb11
  have hW11 := hW10.below hb11
  have hG11 := hG10.below hb11
  have hbel11 := hbel10.trans (hb11.mono hbel10.size)
  have hs11 := hb11.size
  clear a0 a1 a2 b0 b1 b2 hA10 hB10 hW10 hG10 hbel10 hb11
  obtain ⟨b0, b1, b2⟩ := hB11.cells
  -- g0 is marked and held
  go_wp2_with fail
  refine (markDevice_any _ _ (nB B) _ (nz B zs) [] 1 _ hG11 (by omega) (by omega) (by simp [sumP]; omega) (by simp)).mono ?_
  rintro e w12 ⟨rfl, hG12, hu12⟩
  have hA12 := hA11.upd hu12 (by omega)
  have hB12 := hB11.upd hu12 (by omega)
  have hW12 := hW11.upd hu12 (by omega)
  have hbel12 := hbel11.trans (hu12.below (by omega) (by omega))
  have hs12 := hu12.size
  clear b0 b1 b2 hA11 hB11 hW11 hG11 hbel11 hu12
  obtain ⟨b0, b1, b2⟩ := hB12.cells
  go_wp2_with fail
  refine (heldDevice_any (nB B) _ (nz B zs).length [] 1 _ hG12.read (by omega) (by simp [sumP]; omega) (by simp)).mono ?_
  rintro e w13 ⟨rfl, hb13⟩
  have hA13 := hA12.below hb13
  have hW13 := hW12.below hb13
  have hbel13 := hbel12.trans (hb13.mono hbel12.size)
  have hv13 := hv.below hbel13
  have hs13 := hb13.size
  have hsp := sumP_nonneg []
  clear b0 b1 b2 hA12 hB12 hW12 hG12 hbel12 hb13
  -- once more
  go_wp2_with fail
  refine (toByteS_own _ zs _ hv13 (by omega)).mono ?_
  rintro e w14 ⟨rfl, hY14, hb14⟩
  have hA14 := hA13.below hb14
  have hW14 := hW13.below hb14
  have hbel14 := hbel13.trans (hb14.mono hbel13.size)
  have hs14 := hb14.size
  clear hA13 hW13 hbel13 hv13 hb14
  go_wp2_with fail
  refine (implNew_any B _ zs _ hY14.bts (by omega)).mono ?_
  rintro e w15 ⟨ka, kc, rfl, hH15, hb15⟩
  have hA15 := hA14.below hb15
  have hW15 := hW14.below hb15
  have hbel15 := hbel14.trans (hb15.mono hbel14.size)
  have hs15 := hb15.size
  clear hA14 hW14 hbel14 hY14 hb15
  unfold devV at hH15 ⊢
  have hb16 := belowA w15 (.cells #[.int .i64 (nB B), .slice ka (nz B zs).length kc, .slice none 0 0] 25)
  have hH16 := hH15.below hb16
  have hW16 := hW15.below hb16
  have hbel16 := hbel15.trans (hb16.mono hbel15.size)
  obtain ⟨a0, a1, a2⟩ := hA15.cells
  have hlt := hA15.lt
  clear hH15 hW15 hbel15 hb16 hA15
  go_wp2_with fail
  refine (eqDev (nB B) _ _ (nz B zs) [] _ hH16.read hW16.read hzz hps).mono ?_
  rintro e w17 ⟨rfl, hb17⟩
  have hbel17 := hbel16.trans (hb17.mono hbel16.size)
  clear a0 a1 a2 hlt hH16 hW16 hbel16 hb17
  go_wp2
  go_ret
  exact ⟨rfl, hbel17⟩
end Go.Proofs.Ytbadedhliplkeaa
