import Derived.Test.YtanebeebphaolaaCr3
import Derived.Test.YtanebeebphaolaaLawRead
namespace Go.Proofs.Ytanebeebphaolaa
open Go.RowKit

set_option maxHeartbeats 8000000 in
theorem devFlush_walk (B : Int) (va vb : Option Addr) (vc vd : Nat) (zs : List Int) (ps : List (Int × List Int)) (w : World) (hv : DRead w (.agg #[.int .i64 B, .slice va zs.length vc, .slice vb ps.length vd]) B zs ps) (hzb : zs.length ≤ 9223372036854775807) (hpb : PBound ps) :
    Calls Try.prog 6 #[.agg #[.int .i64 B, .slice va zs.length vc, .slice vb ps.length vd]] w fun e w' => e = .returned (.bool true) ∧ Below w.heap.size w w' := by
  have hb0 := belowA w (.cells #[.int .i64 B, .slice va zs.length vc, .slice vb ps.length vd] 50)
  have hX := Box3.made w (.int .i64 B) (.slice va zs.length vc) (.slice vb ps.length vd) 50 _ rfl
  have hv0 := hv.below hb0
  have hsn := sumP_nonneg ps
  by_cases hsz : (1048576 : Int) - zs.length - sumP ps < 0
  · have hr : szR (1048576 - zs.length - sumP ps) < 0 := by rw [szR_neg hsz]; omega
    go_enter Try.func6, Try.ntmps6
    go_wp2_with fail
    refine (szDevice_any B _ zs ps _ _ hv0 hzb hpb.1 hpb.2 (by omega) (by omega)).mono ?_
    rintro e w1 ⟨rfl, hb1⟩
    have hbel := hb0.trans (hb1.mono hb0.size)
    clear hb1 hX hv0
    go_wp2
    go_ret
    exact ⟨rfl, hbel⟩
  · have hr : 0 ≤ szR (1048576 - zs.length - sumP ps) := by rw [szR_pos (by omega)]; omega
    have hzl : zs.length ≤ 1048576 := by omega
    have hpl : ps.length ≤ 1048576 := by have := sumP_len ps; omega
    have hel : ∀ i, (ps.getD i (0, [])).2.length ≤ 1048576 := fun i => by have := sumP_el ps i; omega
    have hps : PSmall ps := ⟨by omega, fun i => by have := hel i; omega⟩
    have hps0 : PSmall [] := ⟨by simp, by simp⟩
    have hfl := fZ_length true [] B zs ps
    have hfl' : (fZ true [] B zs ps).length ≤ 281474976710656 := by omega
    have hne : ((fC B zs ps) != (fC B zs ps)) = false := by simp
    go_enter Try.func6, Try.ntmps6
    go_wp2_with fail
    refine (szDevice_any B _ zs ps _ _ hv0 hzb hpb.1 hpb.2 (by omega) (by omega)).mono ?_
    rintro e w1 ⟨rfl, hb1⟩
    have hX1 := hX.below hb1
    have hs1 : w.heap.size + 1 ≤ w1.heap.size := by have := hb1.size; simpa using this
    have hbel1 := hb0.trans (hb1.mono hb0.size)
    obtain ⟨x0, x1, x2⟩ := hX1.cells
    clear hX hv0 hb1 hb0
    go_wp2_with fail
    refine (toDevice_any _ B zs ps _ (hv.below hbel1) hzl hpl hel).mono ?_
    rintro e w2 ⟨ta, tc, rfl, hT2, hb2⟩
    have hX2 := hX1.below hb2
    have hs2 := hb2.size
    have hbel2 := hbel1.trans (hb2.mono hbel1.size)
    clear x0 x1 x2 hX1 hb2 hbel1
    obtain ⟨w3, hw3⟩ : ∃ w3, w3 = w2 := ⟨_, rfl⟩
    subst hw3
    have hX3 := hX2
    have hT3 := hT2
    have hs3 := Nat.le_refl w3.heap.size
    have hbel3 := hbel2
    clear hX2 hT2 hbel2
    go_wp2_with fail
    refine (specFlush_any B _ _ _ _ zs ps _ hT3.read (Nat.le_refl _) hzl hpl hel).mono ?_
    rintro e w4 ⟨wa, wc, rfl, hW4, hb4⟩
    have hX4 := hX3.below hb4
    have hs4 := hb4.size
    have hbel4 := hbel3.trans (hb4.mono hbel3.size)
    obtain ⟨x0, x1, x2⟩ := hX4.cells
    have hxl := hX4.lt
    clear hX3 hT3 hb4 hbel3
    have hb5 := belowA w4 (.cells #[.int .i64 (fB B zs ps), .slice wa (fZ true [] B zs ps).length wc, .slice none 0 0] 25)
    have hA5 := Box3.made w4 (.int .i64 (fB B zs ps)) (.slice wa (fZ true [] B zs ps).length wc) (.slice none 0 0) 25 _ rfl
    have hX5 := hX4.below hb5
    have hW5 := hW4.below hb5
    have hbel5 := hbel4.trans (hb5.mono hbel4.size)
    clear hX4 hW4 hb5 hbel4
    -- x0
    go_wp2_with fail
    refine (toDevice_any _ B zs ps _ (hv.below hbel5) hzl hpl hel).mono ?_
    rintro e w6 ⟨xa, xc, rfl, hD6, hb6⟩
    simp only [World.size_alloc] at hD6
    have hX6 := hX5.below hb6
    have hA6 := hA5.below hb6
    have hW6 := hW5.below hb6
    have hs6 : w4.heap.size + 1 ≤ w6.heap.size := by have := hb6.size; simpa using this
    have hbel6 := hbel5.trans (hb6.mono hbel5.size)
    clear x0 x1 x2 hxl hX5 hA5 hW5 hb6 hbel5
    have hb7 := belowA w6 (.cells #[.int .i64 B, .slice xa zs.length zs.length, .slice xc ps.length ps.length] 25)
    have hY7 := Box3.made w6 (.int .i64 B) (.slice xa zs.length zs.length) (.slice xc ps.length ps.length) 25 _ rfl
    have hX7 := hX6.below hb7
    have hA7 := hA6.below hb7
    have hW7 := hW6.below hb7
    have hD7 := hD6.below hb7
    have hbel7 := hbel6.trans (hb7.mono hbel6.size)
    clear hX6 hA6 hW6 hD6 hb7 hbel6
    go_wp2_with fail
    refine (implFlush_any B _ _ _ _ zs ps _ hD7.read (Nat.le_refl _) hzl hpl hel).mono ?_
    rintro e w9 ⟨ga, gc, rfl, hG9, hb9⟩
    simp only [World.size_alloc] at hG9
    have hX9 := hX7.below hb9
    have hA9 := hA7.below hb9
    have hY9 := hY7.below hb9
    have hW9 := hW7.below hb9
    have hD9 := hD7.below hb9
    have hs9 : w6.heap.size + 1 ≤ w9.heap.size := by have := hb9.size; simpa using this
    have hbel9 := hbel7.trans (hb9.mono hbel7.size)
    clear hX7 hA7 hY7 hW7 hD7 hb9 hbel7
    obtain ⟨a0, a1, a2⟩ := hA9.cells
    have hal := hA9.lt
    have hb10 := belowA w9 (.cells #[.int .i64 (fB B zs ps), .slice ga (fZ true [] B zs ps).length gc, .slice none 0 0] 25)
    have hB10 := Box3.made w9 (.int .i64 (fB B zs ps)) (.slice ga (fZ true [] B zs ps).length gc) (.slice none 0 0) 25 _ rfl
    have hX10 := hX9.below hb10
    have hA10 := hA9.below hb10
    have hY10 := hY9.below hb10
    have hW10 := hW9.below hb10
    have hD10 := hD9.below hb10
    have hG10 := hG9.below hb10
    have hbel10 := hbel9.trans (hb10.mono hbel9.size)
    clear hX9 hA9 hY9 hW9 hD9 hG9 hb10 hbel9
    go_wp2_with fail
    refine (eqDev (fB B zs ps) _ _ (fZ true [] B zs ps) [] _ hG10.read hW10.read hfl' hps0).mono ?_
    rintro e w11 ⟨rfl, hb11⟩
    have hX11 := hX10.below hb11
    have hA11 := hA10.below hb11
    have hY11 := hY10.below hb11
    have hW11 := hW10.below hb11
    have hD11 := hD10.below hb11
    have hG11 := hG10.below hb11
    have hB11 := hB10.below hb11
    have hs11 : w9.heap.size + 1 ≤ w11.heap.size := by have := hb11.size; simpa using this
    have hbel11 := hbel10.trans (hb11.mono hbel10.size)
    clear a0 a1 a2 hal hX10 hA10 hY10 hW10 hD10 hG10 hB10 hb11 hbel10
    obtain ⟨x0, x1, x2⟩ := hX11.cells
    obtain ⟨y0, y1, y2⟩ := hY11.cells
    go_wp2_with fail
    go_region_held3 (fun w' => w'.cell? ⟨w.heap.size, 0, none⟩ = some (.int .i64 B) ∧ w'.cell? ⟨w.heap.size, 1, none⟩ = some (.slice va zs.length vc) ∧ w'.cell? ⟨w.heap.size, 2, none⟩ = some (.slice vb ps.length vd) ∧ w'.cell? ⟨w6.heap.size, 0, none⟩ = some (.int .i64 B) ∧ w'.cell? ⟨w6.heap.size, 1, none⟩ = some (.slice xa zs.length zs.length) ∧ w'.cell? ⟨w6.heap.size, 2, none⟩ = some (.slice xc ps.length ps.length)) (first | go_keep | assumption)
      (first | (go_at_call 28; refine (toDevice_any _ B zs ps _ ?_ hzl hpl hel).mono ?_; exact (hv.below hbel11).below (Below.refl _ _).drew; rintro e w12 ⟨ta, tc, rfl, hT12, hb12⟩; have hXX := boxes hX11 hY11 hb12) | (go_at_call 13; refine (eqDev B _ _ zs ps _ ?_ ?_ (by omega) hps).mono ?_; exact ((hD11.below (Below.refl _ _).drew).below hb12).read; exact hT12.read; rintro e w13 ⟨rfl, hb13⟩; have hXX13 := boxes2 hXX hb13))
    have hb113 : Below w11.heap.size w11 w13 := ((Below.refl w11.heap.size w11).drew.trans hb12).trans (hb13.mono hb12.size)
    clear x0 x1 x2 y0 y1 y2 hXX hXX13 hT12 hb12 hb13
    have hX13 := hX11.below hb113
    have hA13 := hA11.below hb113
    have hY13 := hY11.below hb113
    have hW13 := hW11.below hb113
    have hD13 := hD11.below hb113
    have hG13 := hG11.below hb113
    have hB13 := hB11.below hb113
    have hs13 := hb113.size
    have hbel13 := hbel11.trans (hb113.mono hbel11.size)
    clear hX11 hA11 hY11 hW11 hD11 hG11 hB11 hb113 hbel11
    obtain ⟨y0, y1, y2⟩ := hY13.cells
    go_wp2_with fail
    refine (markDevice_any _ _ B _ zs ps 1 _ hD13 (by omega) (by omega) (by omega) (by omega)).mono ?_
    rintro e w14 ⟨rfl, -, hu14⟩
    have hX14 := hX13.upd hu14 (by omega)
    have hA14 := hA13.upd hu14 (by omega)
    have hW14 := hW13.upd hu14 (by omega)
    have hG14 := hG13.upd hu14 (by omega)
    have hB14 := hB13.upd hu14 (by omega)
    have hs14 := hu14.size
    have hbel14 := hbel13.trans (hu14.below (by omega) (by omega))
    clear y0 y1 y2 hX13 hA13 hW13 hG13 hB13 hD13 hY13 hbel13 hu14
    obtain ⟨a0, a1, a2⟩ := hA14.cells
    obtain ⟨b0, b1, b2⟩ := hB14.cells
    go_wp2_with fail
    refine (eqDev (fB B zs ps) _ _ (fZ true [] B zs ps) [] _ hG14.read hW14.read hfl' hps0).mono ?_
    rintro e w15 ⟨rfl, hb15⟩
    have hX15 := hX14.below hb15
    have hA15 := hA14.below hb15
    have hW15 := hW14.below hb15
    have hG15 := hG14.below hb15
    have hB15 := hB14.below hb15
    have hs15 := hb15.size
    have hbel15 := hbel14.trans (hb15.mono hbel14.size)
    clear a0 a1 a2 b0 b1 b2 hX14 hA14 hW14 hG14 hB14 hbel14 hb15
    obtain ⟨b0, b1, b2⟩ := hB15.cells
    go_wp2_with fail
    refine (markDevice_any _ _ (fB B zs ps) _ (fZ true [] B zs ps) [] 1 _ hG15 (by omega) (by omega) (by simp [sumP]; omega) (by simp)).mono ?_
    rintro e w16 ⟨rfl, hG16, hu16⟩
    have hX16 := hX15.upd hu16 (by omega)
    have hA16 := hA15.upd hu16 (by omega)
    have hW16 := hW15.upd hu16 (by omega)
    have hB16 := hB15.upd hu16 (by omega)
    have hs16 := hu16.size
    have hbel16 := hbel15.trans (hu16.below (by omega) (by omega))
    clear b0 b1 b2 hX15 hA15 hW15 hB15 hG15 hbel15 hu16
    obtain ⟨b0, b1, b2⟩ := hB16.cells
    go_wp2_with fail
    refine (heldDevice_any (fB B zs ps) _ (fZ true [] B zs ps).length [] 1 _ hG16.read (by omega) (by simp [sumP]; omega) (by simp)).mono ?_
    rintro e w17 ⟨rfl, hb17⟩
    have hX17 := hX16.below hb17
    have hA17 := hA16.below hb17
    have hW17 := hW16.below hb17
    have hs17 := hb17.size
    have hbel17 := hbel16.trans (hb17.mono hbel16.size)
    clear b0 b1 b2 hX16 hA16 hW16 hB16 hG16 hbel16 hb17
    have hsp := sumP_nonneg []
    obtain ⟨x0, x1, x2⟩ := hX17.cells
    go_wp2_with fail
    refine (toDevice_any _ B zs ps _ (hv.below hbel17) hzl hpl hel).mono ?_
    rintro e w18 ⟨ua, uc, rfl, hU18, hb18⟩
    have hA18 := hA17.below hb18
    have hW18 := hW17.below hb18
    have hs18 := hb18.size
    have hbel18 := hbel17.trans (hb18.mono hbel17.size)
    clear x0 x1 x2 hA17 hW17 hX17 hbel17 hb18
    go_wp2_with fail
    refine (implFlush_any B _ _ _ _ zs ps _ hU18.read (Nat.le_refl _) hzl hpl hel).mono ?_
    rintro e w19 ⟨pa, pc, rfl, hH19, hb19⟩
    have hA19 := hA18.below hb19
    have hW19 := hW18.below hb19
    have hs19 := hb19.size
    have hbel19 := hbel18.trans (hb19.mono hbel18.size)
    clear  hA18 hW18 hU18 hbel18 hb19
    have hbZ := belowA w19 (.cells #[.int .i64 (fB B zs ps), .slice pa (fZ true [] B zs ps).length pc, .slice none 0 0] 25)
    have hHZ := hH19.below hbZ
    have hWZ := hW19.below hbZ
    have hbelZ := hbel19.trans (hbZ.mono hbel19.size)
    obtain ⟨a0, a1, a2⟩ := hA19.cells
    have hlt := hA19.lt
    clear hH19 hW19 hbel19 hbZ hA19
    go_wp2_with fail
    refine (eqDev (fB B zs ps) _ _ (fZ true [] B zs ps) [] _ hHZ.read hWZ.read hfl' hps0).mono ?_
    rintro e wF ⟨rfl, hbF⟩
    have hbelF := hbelZ.trans (hbF.mono hbelZ.size)
    clear a0 a1 a2 hlt hHZ hWZ hbelZ hbF
    go_wp2
    go_ret
    exact ⟨rfl, hbelF⟩
end Go.Proofs.Ytanebeebphaolaa
