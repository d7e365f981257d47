import Derived.Test.YtamblkibmlfklabDoorPlW1
namespace Go.Proofs.YtamblkibmlfklabDoor
open Go.RowKit
set_option linter.unusedVariables false

set_option maxRecDepth 100000 in
set_option maxHeartbeats 8000000 in
theorem fnPlan_walk (a : Option Addr) (c : Nat) (zs : List Int) (w : World) {adr : Nat → Addr} (hL : Laid w adr) (hv : Bts w (.slice a zs.length c) zs) (hl : zs.length ≤ 1048576) :
    Calls Tryd.prog 3 #[.slice a zs.length c] w fun e w' => e = .returned (.bool true) ∧ Below w.heap.size w w' := by
  have hl0 : ¬ (1048576 : Int) < (zs.length : Int) := by omega
  go_enter Tryd.func3, Tryd.ntmps3
  go_wp2_with fail
  refine (drawPlan_any a c zs w hv hl).mono ?_
  rintro e w1 ⟨u, v, xs, ys, rfl, hxl, hyl, hx1, hy1, hb1⟩
  obtain ⟨ua, uc, rfl⟩ := hx1.form
  obtain ⟨va, vc, rfl⟩ := hy1.form
  clear hv
  go_wp2_with fail
  refine (specPlan_any _ _ xs _ _ ys _ hx1 hy1 (by omega) (by omega)).mono ?_
  rintro e w2 ⟨sa, sc, sa', sc', _, _, _, _, rfl, -, -, -, -, -, -, -, hb2⟩
  have hx2 := hx1.below hb2
  have hy2 := hy1.below hb2
  have hB2 := hb1.trans (hb2.mono hb1.size)
  clear hx1 hy1 hb1 hb2
  go_wp2_with fail
  refine (copyNums_any _ xs _ hx2 (by omega)).mono ?_
  rintro e w3 ⟨ca, cc, rfl, hO3, hb3⟩
  have hx3 := hx2.below hb3
  have hy3 := hy2.below hb3
  have hB3 := hB2.trans (hb3.mono hB2.size)
  clear hx2 hy2 hB2 hb3
  go_wp2_with fail
  refine (copyNums_any _ ys _ hy3 (by omega)).mono ?_
  rintro e w4 ⟨da, dc, rfl, hO4, hb4⟩
  have hx4 := hx3.below hb4
  have hy4 := hy3.below hb4
  have hP4 := hO3.below hb4
  have hB4 := hB3.trans (hb4.mono hB3.size)
  clear hx3 hy3 hB3 hb4 hO3
  go_wp2_with fail
  refine (implPlan_any _ _ xs _ _ ys _ hP4.nts hO4.nts (by omega) (by omega)).mono ?_
  rintro e w5 ⟨pa, pc, ra, rc, l0, h0, l1, h1, rfl, -, -, -, -, -, oP, oR, hb5⟩
  have hx := hx4.below hb5
  have hy := hy4.below hb5
  have hBB := hB4.trans (hb5.mono hB4.size)
  have hL5 := hL.below hBB
  have oPN := oP.nts
  have oRR := oR.read
  clear hx4 hy4 hB4 hb5 hP4 hO4 oP oR hL
  by_cases hck : chk [xs, ys] = 0
  case neg =>
    obtain ⟨f1, f2, f3⟩ := pl_no hck
    clear hx hy oPN oRR hL5
    rw [f1, f2, f3]
    rcases chk_two_cases xs ys with hk | hk | hk | hk
    · exact absurd hk hck
    · rw [hk]
      go_wp2
      go_ret
      exact ⟨rfl, hBB⟩
    · rw [hk]
      go_wp2
      go_ret
      exact ⟨rfl, hBB⟩
    · rw [hk]
      go_wp2
      go_ret
      exact ⟨rfl, hBB⟩
  obtain ⟨hyx, hc1, hc2⟩ := chk_two_ok hck
  have k1 := chk_cts hc1
  have k2 := chk_cts hc2
  obtain ⟨n, hn⟩ : ∃ n, xs.length = n := ⟨_, rfl⟩
  have hyn : ys.length = n := by omega
  have hn8 : 8 ≤ n := by have := k1.lo; omega
  have hn5 : n ≤ 512 := by have := k1.hi; omega
  rw [hyn] at hy
  rw [hn] at hx
  rw [hn, hyn]
  clear hxl hyl hc1 hc2
  cases hpk : planK xs ys with
  | none =>
    obtain ⟨f1, f2, f3⟩ := pl_none hck hpk
    rw [f1, f2, f3]
    clear oPN oRR
    go_wp2_with fail
    refine (copyNums_any _ xs _ hx (by omega)).mono ?_
    rintro e w6 ⟨ea, ec, rfl, hO6, hb6⟩
    have hB6 := hb6
    rw [hn] at hO6
    rw [hn]
    go_wp2_with fail
    refine (runsOf_ok k1 hn _ _ _ hO6.nts).mono ?_
    rintro e w7 ⟨fa, fc, rfl, hR7, hb7⟩
    have hB7 := hB6.trans (hb7.mono hB6.size)
    have hL7 := hL5.below hB7
    clear hB6 hb6 hb7 hO6
    have hcnt := counts_ok (adr := adr) hL7 k1 fa fc (by rw [hn]; exact hR7)
    rw [hn] at hcnt
    go_wp2_with fail
    refine hcnt.mono ?_
    rintro e w8 ⟨ga, gc, rfl, hN8, hb8⟩
    have hB8 := hB7.trans (hb8.mono hB7.size)
    clear hcnt hL7 hB7 hb8 hR7
    have hx8 := hx.below hB8
    obtain ⟨gb, go, rfl, hg8⟩ : ∃ b off, ga = some ⟨b, off, none⟩ ∧ ∀ i, i < n → w8.cell? ⟨b, off + i, none⟩ = some (.int .i64 (xs.getD i 0)) := by
      obtain ⟨_, _, he, hs⟩ := hN8.shape
      rw [hn] at he hs
      simp only [Value.slice.injEq, true_and] at he
      obtain ⟨rfl, rfl⟩ := he
      exact hs (by omega)
    obtain ⟨ub, uo, rfl, hu8⟩ : ∃ b off, ua = some ⟨b, off, none⟩ ∧ ∀ i, i < n → w8.cell? ⟨b, off + i, none⟩ = some (.int .i64 (xs.getD i 0)) := by
      obtain ⟨_, _, he, hs⟩ := hx8.shape
      rw [hn] at he hs
      simp only [Value.slice.injEq, true_and] at he
      obtain ⟨rfl, rfl⟩ := he
      exact hs (by omega)
    clear hN8 hx8
    go_wp2
    go_loopw [15] (fun i wr => ∃ k : Nat, k ≤ n ∧ i = .int .i64 k ∧ Below w8.heap.size w8 wr) (fun i _ => n - (intOf i).toNat)
    case atStart => exact ⟨0, Nat.zero_le _, rfl, Below.refl _ _⟩
    case round =>
      obtain ⟨k, hk, rfl, hbr⟩ := hrel
      by_cases hlt : k < n
      · have hi : (k : Int) < (n : Int) := by omega
        have g1 : wr.cell? ⟨gb, go + k, none⟩ = some (.int .i64 (xs.getD k 0)) := (hbr.cell (p := ⟨gb, go + k, none⟩) (World.block_lt_of_cell? _ _ (hg8 k hlt))).trans (hg8 k hlt)
        have g2 : wr.cell? ⟨ub, uo + k, none⟩ = some (.int .i64 (xs.getD k 0)) := (hbr.cell (p := ⟨ub, uo + k, none⟩) (World.block_lt_of_cell? _ _ (hu8 k hlt))).trans (hu8 k hlt)
        generalize xs.getD k 0 = xk at g1 g2
        have hne : (xk != xk) = false := by simp
        go_wp2
        go_region_held3 (fun w' => w'.cell? ⟨gb, go + k, none⟩ = some (.int .i64 xk) ∧ w'.cell? ⟨ub, uo + k, none⟩ = some (.int .i64 xk)) (first | go_keep | assumption | exact ⟨g1, g2⟩) (fail)
        go_wp2
        go_roundw
        case rel => exact ⟨k + 1, by omega, by go_num, hbr.drew⟩
        case measure => simp [intOf]; omega
      · have hi : ¬ (k : Int) < (n : Int) := by omega
        have hB9 := hB8.trans (hbr.mono hB8.size)
        obtain ⟨w9, rfl⟩ : ∃ w9, w9 = wr := ⟨wr, rfl⟩
        clear hg8 hu8 hbr hB8
        go_wp2_with fail
        refine (copyNums_any _ xs _ (hx.below hB9) (by omega)).mono ?_
        rintro e w10 ⟨ea, ec, rfl, hO10, hb10⟩
        have hB10 := hB9.trans (hb10.mono hB9.size)
        rw [hn] at hO10
        rw [hn]
        clear hB9 hb10
        go_wp2_with fail
        refine (copyNums_any _ ys _ (hy.below hB10) (by omega)).mono ?_
        rintro e w11 ⟨fa, fc, rfl, hO11, hb11⟩
        have hB11 := hB10.trans (hb11.mono hB10.size)
        have hO10 := hO10.below hb11
        rw [hyn] at hO11
        rw [hyn]
        clear hB10 hb11
        go_wp2_with fail
        refine (classify_ok k1 k2 hn hyn _ _ _ _ _ hO10.nts hO11.nts).mono ?_
        rintro e w12 ⟨ia, ic, rfl, hN12, hb12⟩
        have hB12 := hB11.trans (hb12.mono hB11.size)
        clear hB11 hb12 hO10 hO11
        obtain ⟨ib, io, rfl, hi12⟩ : ∃ b off, ia = some ⟨b, off, none⟩ ∧ ∀ i, i < n → w12.cell? ⟨b, off + i, none⟩ = some (.int .i64 ((clsL xs ys n).getD i 0)) := by
          obtain ⟨_, _, he, hs⟩ := hN12.shape
          rw [clsL_length] at he hs
          simp only [Value.slice.injEq, true_and] at he
          obtain ⟨rfl, rfl⟩ := he
          exact hs (by omega)
        clear hN12
        go_wp2
        go_loopw [18, 19] (fun f i wr => ∃ k : Nat, k ≤ n ∧ i = .int .i64 k ∧ f = .int .i64 (nFree xs ys k) ∧ Below w12.heap.size w12 wr) (fun _ i _ => n - (intOf i).toNat)
        case atStart => exact ⟨0, Nat.zero_le _, rfl, rfl, Below.refl _ _⟩
        case round =>
          obtain ⟨k, hk, rfl, rfl, hbr⟩ := hrel
          by_cases hlt : k < n
          · have hi : (k : Int) < (n : Int) := by omega
            have g1 : wr.cell? ⟨ib, io + k, none⟩ = some (.int .i64 ((clsL xs ys n).getD k 0)) := (hbr.cell (p := ⟨ib, io + k, none⟩) (World.block_lt_of_cell? _ _ (hi12 k hlt))).trans (hi12 k hlt)
            rw [clsL_get _ _ _ _ hlt] at g1
            have hfl := nFree_le xs ys k
            have HN : Hid (nFree xs ys (k + 1) = if cls k (xs.getD k 0) (ys.getD k 0) = 4 then nFree xs ys k + 1 else nFree xs ys k) := nFree_succ xs ys k
            generalize cls k (xs.getD k 0) (ys.getD k 0) = cl at g1 HN
            generalize nFree xs ys k = fk at hfl HN ⊢
            by_cases hcl : cl = 4
            · subst hcl
              have HN1 : Hid (nFree xs ys (k + 1) = fk + 1) := HN.out
              clear HN
              go_wp2
              go_roundw
              case rel => exact ⟨k + 1, by omega, by go_num, by rw [HN1.out]; go_num, hbr⟩
              case measure => simp [intOf]; omega
            · have hcl' : (cl == 4) = false := by simpa using hcl
              have HN1 : Hid (nFree xs ys (k + 1) = fk) := by rw [Hid, HN.out, if_neg hcl]
              clear HN
              go_wp2
              go_roundw
              case rel => exact ⟨k + 1, by omega, by go_num, by rw [HN1.out], hbr⟩
              case measure => simp [intOf]; omega
          · have hi : ¬ (k : Int) < (n : Int) := by omega
            have hkn : k = n := by omega
            have hB13 := hB12.trans (hbr.mono hB12.size)
            obtain ⟨w13, rfl⟩ : ∃ w13, w13 = wr := ⟨wr, rfl⟩
            clear hi12 hbr hB12 hlt
            subst hkn
            have hR : resv k = (((k + 17) / 20 : Nat) : Int) := by rw [show resv k = ((k : Int) + 17) / 20 from if_pos (by omega)]; omega
            obtain ⟨R, hRR⟩ : ∃ R, (k + 17) / 20 = R := ⟨_, rfl⟩
            rw [hRR] at hR
            have hR1 : ¬ (R : Int) * 20 < (k : Int) - 2 := by omega
            have hR2 : R ≤ 26 := by omega
            go_wp2_with fail
            refine (implReserve_any _ _).mono ?_
            rintro e w14 ⟨rfl, rfl⟩
            rw [hR]
            have hfr : ((nFree xs ys k : Nat) : Int) < (R : Int) := by
              have h1 := plan_reserve hck hpk
              rw [← nFree_end k1 k2, hn, hR] at h1
              exact h1
            have hfl := nFree_le xs ys k
            have hend := hBB.trans (hB13.mono hBB.size)
            generalize nFree xs ys k = fk at hfr hfl ⊢
            clear hx hy hL5 hB13 hBB
            go_wp2
            go_ret
            exact ⟨rfl, hend⟩
  | some j =>
    obtain ⟨f1, f2, f3⟩ := pl_some hck hpk
    obtain ⟨hj, hgood⟩ := plan_good hpk
    rw [f3]
    obtain ⟨m, hm⟩ : ∃ m, (plP xs ys).length = m := ⟨_, rfl⟩
    obtain ⟨rl, hrl⟩ : ∃ rl, (plR xs ys).length = rl := ⟨_, rfl⟩
    rw [hm] at oPN
    rw [hrl] at oRR
    rw [hm, hrl]
    have HM : Hid ((plP xs ys).length = m) := hm
    have HRL : Hid ((plR xs ys).length = rl) := hrl
    have HF1 : Hid _ := f1
    have HF2 : Hid _ := f2
    clear f1 f2 f3 hm hrl
    have HG : Hid _ := hgood
    have HJ : Hid _ := hj
    clear hgood hj
    go_wp2_with fail
    refine (copyNums_any _ xs _ hx (by omega)).mono ?_
    rintro e w6 ⟨ea, ec, rfl, hO6, hb6⟩
    have hB6 := hb6
    rw [hn] at hO6
    rw [hn]
    go_wp2_with fail
    refine (runsOf_ok k1 hn _ _ _ hO6.nts).mono ?_
    rintro e w7 ⟨fa, fc, rfl, hR7, hb7⟩
    have hB7 := hB6.trans (hb7.mono hB6.size)
    have hL7 := hL5.below hB7
    clear hB6 hb6 hb7 hO6
    have hcnt := counts_ok (adr := adr) hL7 k1 fa fc (by rw [hn]; exact hR7)
    rw [hn] at hcnt
    go_wp2_with fail
    refine hcnt.mono ?_
    rintro e w8 ⟨ga, gc, rfl, hN8, hb8⟩
    have hB8 := hB7.trans (hb8.mono hB7.size)
    clear hcnt hL7 hB7 hb8 hR7
    have hx8 := hx.below hB8
    obtain ⟨gb, go, rfl, hg8⟩ : ∃ b off, ga = some ⟨b, off, none⟩ ∧ ∀ i, i < n → w8.cell? ⟨b, off + i, none⟩ = some (.int .i64 (xs.getD i 0)) := by
      obtain ⟨_, _, he, hs⟩ := hN8.shape
      rw [hn] at he hs
      simp only [Value.slice.injEq, true_and] at he
      obtain ⟨rfl, rfl⟩ := he
      exact hs (by omega)
    obtain ⟨ub, uo, rfl, hu8⟩ : ∃ b off, ua = some ⟨b, off, none⟩ ∧ ∀ i, i < n → w8.cell? ⟨b, off + i, none⟩ = some (.int .i64 (xs.getD i 0)) := by
      obtain ⟨_, _, he, hs⟩ := hx8.shape
      rw [hn] at he hs
      simp only [Value.slice.injEq, true_and] at he
      obtain ⟨rfl, rfl⟩ := he
      exact hs (by omega)
    clear hN8 hx8
    go_wp2
    go_loopw [15] (fun i wr => ∃ k : Nat, k ≤ n ∧ i = .int .i64 k ∧ Below w8.heap.size w8 wr) (fun i _ => n - (intOf i).toNat)
    case atStart => exact ⟨0, Nat.zero_le _, rfl, Below.refl _ _⟩
    case round =>
      obtain ⟨k, hk, rfl, hbr⟩ := hrel
      by_cases hlt : k < n
      · have hi : (k : Int) < (n : Int) := by omega
        have g1 : wr.cell? ⟨gb, go + k, none⟩ = some (.int .i64 (xs.getD k 0)) := (hbr.cell (p := ⟨gb, go + k, none⟩) (World.block_lt_of_cell? _ _ (hg8 k hlt))).trans (hg8 k hlt)
        have g2 : wr.cell? ⟨ub, uo + k, none⟩ = some (.int .i64 (xs.getD k 0)) := (hbr.cell (p := ⟨ub, uo + k, none⟩) (World.block_lt_of_cell? _ _ (hu8 k hlt))).trans (hu8 k hlt)
        generalize xs.getD k 0 = xk at g1 g2
        have hne : (xk != xk) = false := by simp
        go_wp2
        go_region_held3 (fun w' => w'.cell? ⟨gb, go + k, none⟩ = some (.int .i64 xk) ∧ w'.cell? ⟨ub, uo + k, none⟩ = some (.int .i64 xk)) (first | go_keep | assumption | exact ⟨g1, g2⟩) (fail)
        go_wp2
        go_roundw
        case rel => exact ⟨k + 1, by omega, by go_num, hbr.drew⟩
        case measure => simp [intOf]; omega
      · have hi : ¬ (k : Int) < (n : Int) := by omega
        have hB9 := hB8.trans (hbr.mono hB8.size)
        obtain ⟨w9, rfl⟩ : ∃ w9, w9 = wr := ⟨wr, rfl⟩
        clear hg8 hu8 hbr hB8
        go_wp2_with fail
        refine (copyNums_any _ xs _ (hx.below hB9) (by omega)).mono ?_
        rintro e w10 ⟨ea, ec, rfl, hO10, hb10⟩
        have hB10 := hB9.trans (hb10.mono hB9.size)
        rw [hn] at hO10
        rw [hn]
        clear hB9 hb10
        go_wp2_with fail
        refine (copyNums_any _ ys _ (hy.below hB10) (by omega)).mono ?_
        rintro e w11 ⟨fa, fc, rfl, hO11, hb11⟩
        have hB11 := hB10.trans (hb11.mono hB10.size)
        have hO10 := hO10.below hb11
        rw [hyn] at hO11
        rw [hyn]
        clear hB10 hb11
        go_wp2_with fail
        refine (classify_ok k1 k2 hn hyn _ _ _ _ _ hO10.nts hO11.nts).mono ?_
        rintro e w12 ⟨ia, ic, rfl, hN12, hb12⟩
        have hB12 := hB11.trans (hb12.mono hB11.size)
        clear hB11 hb12 hO10 hO11
        obtain ⟨ib, io, rfl, hi12⟩ : ∃ b off, ia = some ⟨b, off, none⟩ ∧ ∀ i, i < n → w12.cell? ⟨b, off + i, none⟩ = some (.int .i64 ((clsL xs ys n).getD i 0)) := by
          obtain ⟨_, _, he, hs⟩ := hN12.shape
          rw [clsL_length] at he hs
          simp only [Value.slice.injEq, true_and] at he
          obtain ⟨rfl, rfl⟩ := he
          exact hs (by omega)
        clear hN12
        go_wp2
        go_loopw [18, 19] (fun f i wr => ∃ k : Nat, k ≤ n ∧ i = .int .i64 k ∧ f = .int .i64 (nFree xs ys k) ∧ Below w12.heap.size w12 wr) (fun _ i _ => n - (intOf i).toNat)
        case atStart => exact ⟨0, Nat.zero_le _, rfl, rfl, Below.refl _ _⟩
        case round =>
          obtain ⟨k, hk, rfl, rfl, hbr⟩ := hrel
          by_cases hlt : k < n
          · have hi : (k : Int) < (n : Int) := by omega
            have g1 : wr.cell? ⟨ib, io + k, none⟩ = some (.int .i64 ((clsL xs ys n).getD k 0)) := (hbr.cell (p := ⟨ib, io + k, none⟩) (World.block_lt_of_cell? _ _ (hi12 k hlt))).trans (hi12 k hlt)
            rw [clsL_get _ _ _ _ hlt] at g1
            have hfl := nFree_le xs ys k
            have HN : Hid (nFree xs ys (k + 1) = if cls k (xs.getD k 0) (ys.getD k 0) = 4 then nFree xs ys k + 1 else nFree xs ys k) := nFree_succ xs ys k
            generalize cls k (xs.getD k 0) (ys.getD k 0) = cl at g1 HN
            generalize nFree xs ys k = fk at hfl HN ⊢
            by_cases hcl : cl = 4
            · subst hcl
              have HN1 : Hid (nFree xs ys (k + 1) = fk + 1) := HN.out
              clear HN
              go_wp2
              go_roundw
              case rel => exact ⟨k + 1, by omega, by go_num, by rw [HN1.out]; go_num, hbr⟩
              case measure => simp [intOf]; omega
            · have hcl' : (cl == 4) = false := by simpa using hcl
              have HN1 : Hid (nFree xs ys (k + 1) = fk) := by rw [Hid, HN.out, if_neg hcl]
              clear HN
              go_wp2
              go_roundw
              case rel => exact ⟨k + 1, by omega, by go_num, by rw [HN1.out], hbr⟩
              case measure => simp [intOf]; omega
          · have hi : ¬ (k : Int) < (n : Int) := by omega
            have hkn : k = n := by omega
            have hB13 := hB12.trans (hbr.mono hB12.size)
            obtain ⟨w13, rfl⟩ : ∃ w13, w13 = wr := ⟨wr, rfl⟩
            clear hi12 hbr hB12 hlt
            subst hkn
            have hR : resv k = (((k + 17) / 20 : Nat) : Int) := by rw [show resv k = ((k : Int) + 17) / 20 from if_pos (by omega)]; omega
            obtain ⟨R, hRR⟩ : ∃ R, (k + 17) / 20 = R := ⟨_, rfl⟩
            rw [hRR] at hR
            have hR1 : ¬ (R : Int) * 20 < (k : Int) - 2 := by omega
            have hR2 : R ≤ 26 := by omega
            go_wp2_with fail
            refine (implReserve_any _ _).mono ?_
            rintro e w14 ⟨rfl, rfl⟩
            rw [hR]
            have hm := HM.out
            have hrl := HRL.out
            have f1 := HF1.out
            have f2 := HF2.out
            have hgood := HG.out
            have hj := HJ.out
            have hmj : m = j + 1 := by rw [← hm, f1, List.length_map, List.length_take]; omega
            have hpl : ∀ i (h : i < (frs xs ys xs.length xs.length).length), i < m → (plP xs ys).getD i 0 = (((frs xs ys xs.length xs.length)[i].1 : Nat) : Int) := fun i h hi => by
              rw [f1]
              simp only [List.getD_eq_getElem?_getD, List.getElem?_map, List.getElem?_take]
              rw [if_pos (by omega), List.getElem?_eq_getElem h]
              rfl
            have hprR : plR xs ys = rns (ones xs ((frs xs ys xs.length xs.length).take m)) k := by rw [f2, hmj, rnO, hn]
            have hrl20 : (rl : Int) ≤ 20 * (m : Int) := by
              have hg2 := of_decide_eq_true hgood
              rw [List.length_take, ← f2, hrl] at hg2
              omega
            have hrl5 : rl ≤ 512 := by rw [← hrl]; exact plR_length xs ys
            have hm5 : m ≤ 512 := by rw [← hm]; exact plP_length xs ys
            have hfl := frs_length xs ys xs.length xs.length
            have hjf : m ≤ (frs xs ys xs.length xs.length).length := by omega
            obtain ⟨pb, po, rfl, hp5⟩ : ∃ b off, pa = some ⟨b, off, none⟩ ∧ ∀ i, i < m → w5.cell? ⟨b, off + i, none⟩ = some (.int .i64 ((plP xs ys).getD i 0)) := by
              obtain ⟨_, _, he, hs⟩ := oPN.shape
              rw [hm] at he hs
              simp only [Value.slice.injEq, true_and] at he
              obtain ⟨rfl, rfl⟩ := he
              exact hs (by omega)
            obtain ⟨ub5, uo5, hub5, hu5⟩ : ∃ b off, (some ⟨ub, uo, none⟩ : Option Addr) = some ⟨b, off, none⟩ ∧ ∀ i, i < k → w5.cell? ⟨b, off + i, none⟩ = some (.int .i64 (xs.getD i 0)) := by
              obtain ⟨_, _, he, hs⟩ := hx.shape
              rw [hn] at he hs
              simp only [Value.slice.injEq, true_and] at he
              obtain ⟨rfl, rfl⟩ := he
              exact hs (by omega)
            simp only [Option.some.injEq, Addr.mk.injEq, and_true] at hub5
            obtain ⟨rfl, rfl⟩ := hub5
            obtain ⟨vb, vo, rfl, hv5⟩ : ∃ b off, va = some ⟨b, off, none⟩ ∧ ∀ i, i < k → w5.cell? ⟨b, off + i, none⟩ = some (.int .i64 (ys.getD i 0)) := by
              obtain ⟨_, _, he, hs⟩ := hy.shape
              rw [hyn] at he hs
              simp only [Value.slice.injEq, true_and] at he
              obtain ⟨rfl, rfl⟩ := he
              exact hs (by omega)
            clear f1 f2 hm hrl hgood HF1 HF2 HM HG HJ hj
            have HPR : Hid _ := hprR
            clear hprR
            have hfl2 := nFree_le xs ys k
            generalize nFree xs ys k = fk at hfl2 ⊢
            go_wp2_with fail
            refine (copyNums_any _ xs _ (hx.below hB13) (by omega)).mono ?_
            rintro e w15 ⟨la, lc, rfl, hO15, hb15⟩
            have hB15 := hB13.trans (hb15.mono hB13.size)
            have hs15 := hb15.size
            rw [hn] at hO15
            rw [hn]
            have hs13 := hB13.size
            clear hB13 hb15
            go_wp2
            go_loopw [22] (fun i wr => ∃ q : Nat, q ≤ m ∧ i = .int .i64 q ∧ Own64 w13.heap.size w15.heap.size wr (.slice la k lc) (ones xs ((frs xs ys xs.length xs.length).take q)) ∧ Below w5.heap.size w5 wr ∧ w15.heap.size ≤ wr.heap.size) (fun i _ => m - (intOf i).toNat)
            case atStart => exact ⟨0, Nat.zero_le _, rfl, hO15, hB15, Nat.le_refl _⟩
            case round =>
              obtain ⟨q, hq, rfl, hOl, hBr, hsr⟩ := hrel
              obtain ⟨wq, rfl⟩ : ∃ wq, wq = wr := ⟨wr, rfl⟩
              clear hO15 hB15
              have hol : (ones xs ((frs xs ys xs.length xs.length).take q)).length = k := by rw [ones_length, hn]
              have ko := k1.ones ((frs xs ys xs.length xs.length).take q)
              by_cases hlt : q < m
              · have hi : (q : Int) < (m : Int) := by omega
                have hqf : q < (frs xs ys xs.length xs.length).length := by omega
                have hpq := hpl q hqf hlt
                have hx2 := (frs xs ys xs.length xs.length)[q].2.1
                have hxk : (frs xs ys xs.length xs.length)[q].1 < k := by rw [← hn]; exact (frs xs ys xs.length xs.length)[q].2.2
                obtain ⟨hfz, hfy⟩ := frs_free hqf
                have HON : Hid ((ones xs ((frs xs ys xs.length xs.length).take q)).set (frs xs ys xs.length xs.length)[q].1 1 = ones xs ((frs xs ys xs.length xs.length).take (q + 1))) := by rw [Hid, List.take_succ_eq_append_getElem hqf, ones_snoc]
                go_wp2_with fail
                refine (copyNums_any _ _ _ hOl.nts (by omega)).mono ?_
                rintro e w16 ⟨ea, ec, rfl, hO16, hb16⟩
                have hB16 := hBr.trans (hb16.mono hBr.size)
                have hOl1 := hOl.below hb16
                have hs16 := hb16.size
                rw [hol] at hO16
                rw [hol]
                clear hBr hb16 hOl
                go_wp2_with fail
                refine (runsOf_ok ko hol _ _ _ hO16.nts).mono ?_
                rintro e w17 ⟨fa, fc, rfl, hR17, hb17⟩
                have hB17 := hB16.trans (hb17.mono hB16.size)
                have hOl2 := hOl1.below hb17
                have hs17 := hb17.size
                clear hB16 hb17 hOl1 hR17 hO16
                have hbl : 0 < q → ¬ ((rns (ones xs ((frs xs ys xs.length xs.length).take q)) k).length : Int) ≤ 20 * (q : Int) := fun h0 => by
                  have h1 := plan_least hpk (show q - 1 < j by omega)
                  rw [show q - 1 + 1 = q by omega] at h1
                  have h2 := of_decide_eq_false h1
                  have h3 : rnO xs ((frs xs ys xs.length xs.length).take q) = rns (ones xs ((frs xs ys xs.length xs.length).take q)) k := by unfold rnO; rw [hn]
                  rw [List.length_take, h3] at h2
                  omega
                have hbl5 := rns_length (ones xs ((frs xs ys xs.length xs.length).take q)) k
                generalize (rns (ones xs ((frs xs ys xs.length xs.length).take q)) k).length = bl at hbl hbl5 ⊢
                by_cases hq0 : 0 < q
                · have hq0i : (0 : Int) < (q : Int) := by omega
                  have hbl1 := hbl hq0
                  go_wp2_with fail
                  refine (copyNums_any _ _ _ hOl2.nts (by omega)).mono ?_
                  rintro e w18 ⟨ea2, ec2, rfl, hO18, hb18⟩
                  have hB18 := hB17.trans (hb18.mono hB17.size)
                  have hOl3 := hOl2.below hb18
                  have hs18 := hb18.size
                  rw [hol] at hO18
                  rw [hol]
                  clear hB17 hb18 hOl2
                  go_wp2_with fail
                  refine (copyNums_any _ ys _ (hy.below hB18) (by omega)).mono ?_
                  rintro e w19 ⟨fa2, fc2, rfl, hO19, hb19⟩
                  have hB19 := hB18.trans (hb19.mono hB18.size)
                  have hOl4 := hOl3.below hb19
                  have hO18 := hO18.below hb19
                  have hs19 := hb19.size
                  rw [hyn] at hO19
                  rw [hyn]
                  clear hB18 hb19 hOl3
                  have hlo := lowest_ok k1 k2 hn hyn hqf _ _ _ _ _ hO18.nts hO19.nts
                  generalize hxe : (frs xs ys xs.length xs.length)[q].1 = x at hlo hpq hx2 hxk hfz hfy HON
                  go_wp2_with fail
                  refine hlo.mono ?_
                  rintro e w20 ⟨rfl, hb20⟩
                  have hB20 := hB19.trans (hb20.mono hB19.size)
                  have hOl5 := hOl4.below hb20
                  have hs20 := hb20.size
                  clear hlo hB19 hb20 hOl4 hO18 hO19
                  have g1 : w20.cell? ⟨pb, po + q, none⟩ = some (.int .i64 x) := by rw [hB20.cell (p := ⟨pb, po + q, none⟩) (World.block_lt_of_cell? _ _ (hp5 q hlt)), hp5 q hlt, hpq]
                  have g2 : w20.cell? ⟨ub, uo + x, none⟩ = some (.int .i64 0) := by rw [hB20.cell (p := ⟨ub, uo + x, none⟩) (World.block_lt_of_cell? _ _ (hu5 x hxk)), hu5 x hxk, hfz]
                  have g3 : w20.cell? ⟨vb, vo + x, none⟩ = some (.int .i64 0) := by rw [hB20.cell (p := ⟨vb, vo + x, none⟩) (World.block_lt_of_cell? _ _ (hv5 x hxk)), hv5 x hxk, hfy]
                  obtain ⟨lb, lo, rfl, d1, d2, d3, d4, d5, d6⟩ := hOl5.stored2 x (by omega) 1 (by omega)
                  rw [HON.out] at d5
                  have hx2i : ¬ (x : Int) < 2 := by omega
                  have hxki : (x : Int) < (k : Int) := by omega
                  generalize (ones xs ((frs xs ys xs.length xs.length).take q)).getD x 0 = ov at d3
                  have hBE := hB20.setCell (p := ⟨lb, lo + x, none⟩) (show w5.heap.size ≤ lb by omega) (.int .i64 1)
                  have hsE : w15.heap.size ≤ (w20.setCell ⟨lb, lo + x, none⟩ (.int .i64 1)).heap.size := by simp only [World.setCell, Array.size_modify]; omega
                  clear hOl5
                  go_wp2
                  go_roundw
                  case rel => exact ⟨q + 1, by omega, by go_num, d5, hBE, hsE⟩
                  case measure => simp [intOf]; omega
                · have hq0i : ¬ (0 : Int) < (q : Int) := by omega
                  go_wp2_with fail
                  refine (copyNums_any _ _ _ hOl2.nts (by omega)).mono ?_
                  rintro e w18 ⟨ea2, ec2, rfl, hO18, hb18⟩
                  have hB18 := hB17.trans (hb18.mono hB17.size)
                  have hOl3 := hOl2.below hb18
                  have hs18 := hb18.size
                  rw [hol] at hO18
                  rw [hol]
                  clear hB17 hb18 hOl2
                  go_wp2_with fail
                  refine (copyNums_any _ ys _ (hy.below hB18) (by omega)).mono ?_
                  rintro e w19 ⟨fa2, fc2, rfl, hO19, hb19⟩
                  have hB19 := hB18.trans (hb19.mono hB18.size)
                  have hOl4 := hOl3.below hb19
                  have hO18 := hO18.below hb19
                  have hs19 := hb19.size
                  rw [hyn] at hO19
                  rw [hyn]
                  clear hB18 hb19 hOl3
                  have hlo := lowest_ok k1 k2 hn hyn hqf _ _ _ _ _ hO18.nts hO19.nts
                  generalize hxe : (frs xs ys xs.length xs.length)[q].1 = x at hlo hpq hx2 hxk hfz hfy HON
                  go_wp2_with fail
                  refine hlo.mono ?_
                  rintro e w20 ⟨rfl, hb20⟩
                  have hB20 := hB19.trans (hb20.mono hB19.size)
                  have hOl5 := hOl4.below hb20
                  have hs20 := hb20.size
                  clear hlo hB19 hb20 hOl4 hO18 hO19
                  have g1 : w20.cell? ⟨pb, po + q, none⟩ = some (.int .i64 x) := by rw [hB20.cell (p := ⟨pb, po + q, none⟩) (World.block_lt_of_cell? _ _ (hp5 q hlt)), hp5 q hlt, hpq]
                  have g2 : w20.cell? ⟨ub, uo + x, none⟩ = some (.int .i64 0) := by rw [hB20.cell (p := ⟨ub, uo + x, none⟩) (World.block_lt_of_cell? _ _ (hu5 x hxk)), hu5 x hxk, hfz]
                  have g3 : w20.cell? ⟨vb, vo + x, none⟩ = some (.int .i64 0) := by rw [hB20.cell (p := ⟨vb, vo + x, none⟩) (World.block_lt_of_cell? _ _ (hv5 x hxk)), hv5 x hxk, hfy]
                  obtain ⟨lb, lo, rfl, d1, d2, d3, d4, d5, d6⟩ := hOl5.stored2 x (by omega) 1 (by omega)
                  rw [HON.out] at d5
                  have hx2i : ¬ (x : Int) < 2 := by omega
                  have hxki : (x : Int) < (k : Int) := by omega
                  generalize (ones xs ((frs xs ys xs.length xs.length).take q)).getD x 0 = ov at d3
                  have hBE := hB20.setCell (p := ⟨lb, lo + x, none⟩) (show w5.heap.size ≤ lb by omega) (.int .i64 1)
                  have hsE : w15.heap.size ≤ (w20.setCell ⟨lb, lo + x, none⟩ (.int .i64 1)).heap.size := by simp only [World.setCell, Array.size_modify]; omega
                  clear hOl5
                  go_wp2
                  go_roundw
                  case rel => exact ⟨q + 1, by omega, by go_num, d5, hBE, hsE⟩
                  case measure => simp [intOf]; omega
              · have hi : ¬ (q : Int) < (m : Int) := by omega
                have hqm : q = m := by omega
                subst hqm
                go_wp2_with fail
                refine (copyNums_any _ _ _ hOl.nts (by omega)).mono ?_
                rintro e w16 ⟨ea, ec, rfl, hO16, hb16⟩
                have hB16 := hBr.trans (hb16.mono hBr.size)
                rw [hol] at hO16
                rw [hol]
                clear hBr hb16 hOl
                go_wp2_with fail
                refine (runsOf_ok ko hol _ _ _ hO16.nts).mono ?_
                rintro e w17 ⟨fa, fc, rfl, hR17, hb17⟩
                have hB17 := hB16.trans (hb17.mono hB16.size)
                rw [← HPR.out] at hR17 ⊢
                rw [HRL.out] at hR17 ⊢
                have oR2 := oRR.below hB17
                clear hB16 hb17 hO16 oRR
                have hm0 : (0 : Int) < (q : Int) := by omega
                go_wp2_with fail
                refine (lRuns_len HRL.out _ _ _ _ _ hR17 oR2 (by omega)).mono ?_
                rintro e w18 ⟨rfl, hb18⟩
                have hend := hBB.trans ((hB17.trans (hb18.mono hB17.size)).mono hBB.size)
                clear hB17 hb18 hR17 oR2 hBB hL5
                have hrl21 : (rl : Int) ≤ 20 * ((j : Int) + 1) := by omega
                go_wp2
                go_ret
                exact ⟨rfl, hend⟩
end Go.Proofs.YtamblkibmlfklabDoor
