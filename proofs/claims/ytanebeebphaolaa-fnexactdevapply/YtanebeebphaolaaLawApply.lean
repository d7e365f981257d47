import Derived.Test.YtanebeebphaolaaAp4
import Derived.Test.YtanebeebphaolaaLawRead
namespace Go.Proofs.Ytanebeebphaolaa
open Go.RowKit

set_option maxHeartbeats 8000000 in
theorem devApply_walk (count : Int) (ss : List (Int × Int × List Int)) (ka : Option Addr) (kc : Nat) (B : Int) (va vb : Option Addr) (vc vd : Nat) (zs : List Int) (ps : List (Int × List Int)) (w : World) (hv : DRead w (.agg #[.int .i64 B, .slice va zs.length vc, .slice vb ps.length vd]) B zs ps) (hzb : zs.length ≤ 9223372036854775807) (hpb : PBound ps) (hkv : SRead w (.slice ka ss.length kc) ss) (hkb : SBound ss) (hc1 : -9223372036854775808 ≤ count) (hc2 : count ≤ 9223372036854775807) :
    Calls Try.prog 9 #[.agg #[.int .i64 B, .slice va zs.length vc, .slice vb ps.length vd], .slice ka ss.length kc, .int .i64 count] w fun e w' => e = .returned (.bool true) ∧ Below w.heap.size w w' := by
  have hb0 := belowA w (.cells #[.int .i64 B, .slice va zs.length vc, .slice vb ps.length vd] 50)
  have hX := Box3.made w (.int .i64 B) (.slice va zs.length vc) (.slice vb ps.length vd) 50 _ rfl
  have hv0 := hv.below hb0
  have hsn := sumP_nonneg ps
  by_cases hsz : (1048576 : Int) - zs.length - sumP ps < 0
  · have hr : szR (1048576 - zs.length - sumP ps) < 0 := by rw [szR_neg hsz]; omega
    go_enter Try.func9, Try.ntmps9
    go_wp2_with fail
    refine (szDevice_any B _ zs ps _ _ hv0 hzb hpb.1 hpb.2 (by omega) (by omega)).mono ?_
    rintro e w1 ⟨rfl, hb1⟩
    have hbel := hb0.trans (hb1.mono hb0.size)
    clear hb1 hX hv0
    go_wp2
    go_ret
    exact ⟨rfl, hbel⟩
  · have hr : 0 ≤ szR (1048576 - zs.length - sumP ps) := by rw [szR_pos (by omega)]; omega
    have hzl : zs.length ≤ 1048576 := by omega
    have hpl : ps.length ≤ 1048576 := by have := sumP_len ps; omega
    have hel : ∀ i, (ps.getD i (0, [])).2.length ≤ 1048576 := fun i => by have := sumP_el ps i; omega
    have hps : PSmall ps := ⟨by omega, fun i => by have := hel i; omega⟩
    obtain ⟨hfl, hsu, hgl, hps0⟩ := ap_small B zs ps ss count
    have hsp := sumP_nonneg (aP B zs ps ss count)
    have hr2 : szR (1048576 - zs.length - sumP ps) ≤ 1048576 := by rw [szR_pos (by omega)]; omega
    have hd0 := dataS_nonneg ss
    by_cases hsz2 : szR (1048576 - zs.length - sumP ps) - sumS ss < 0
    · have hr3 : szR (szR (1048576 - zs.length - sumP ps) - sumS ss) < 0 := by rw [szR_neg hsz2]; omega
      go_enter Try.func9, Try.ntmps9
      go_wp2_with fail
      refine (szDevice_any B _ zs ps _ _ hv0 hzb hpb.1 hpb.2 (by omega) (by omega)).mono ?_
      rintro e w1 ⟨rfl, hb1⟩
      have hbel := hb0.trans (hb1.mono hb0.size)
      clear hb1 hX hv0 hfl hsu hgl hps0 hsp
      go_wp2_with fail
      refine (szStepS_any _ ss _ _ (hkv.below hbel) hkb.1 hkb.2 hr hr2).mono ?_
      rintro e w2 ⟨rfl, hb2⟩
      have hbel2 := hbel.trans (hb2.mono hbel.size)
      clear hb2 hbel
      go_wp2
      go_ret
      exact ⟨rfl, hbel2⟩
    have hr3 : 0 ≤ szR (szR (1048576 - zs.length - sumP ps) - sumS ss) := by rw [szR_pos (by omega)]; omega
    have hsS : sumS ss = ss.length + dataS ss := rfl
    have hsl : ss.length ≤ 1048576 := by omega
    have hsd : ∀ i, (ss.getD i (0, 0, [])).2.2.length ≤ 1048576 := fun i => by have := dataS_el ss i; omega
    have hss : SSmall ss := ⟨by omega, fun i => by have := hsd i; omega⟩
    have hpS : placeS ss = 2 * ss.length + dataS ss := rfl
    have hpS0 := placeS_nonneg ss
    have hpS1 : placeS ss ≤ 4194304 := by omega
    clear hpS hsS
    have hfl' : (aZ B zs ps ss count).length ≤ 281474976710656 := by omega
    have hne : ((aC B zs ps ss count) != (aC B zs ps ss count)) = false := by simp
    go_enter Try.func9, Try.ntmps9
    go_wp2_with fail
    refine (szDevice_any B _ zs ps _ _ hv0 hzb hpb.1 hpb.2 (by omega) (by omega)).mono ?_
    rintro e w0 ⟨rfl, hb9⟩
    have hX9 := hX.below hb9
    have hs0 : w.heap.size + 1 ≤ w0.heap.size := by have := hb9.size; simpa using this
    have hbel0 := hb0.trans (hb9.mono hb0.size)
    clear hb9 hb0 hX hv0
    go_wp2_with fail
    refine (szStepS_any _ ss _ _ (hkv.below hbel0) hkb.1 hkb.2 hr hr2).mono ?_
    rintro e w1 ⟨rfl, hb1⟩
    have hX1 := hX9.below hb1
    have hs1 : w.heap.size + 1 ≤ w1.heap.size := by have := hb1.size; omega
    have hbel1 := hbel0.trans (hb1.mono hbel0.size)
    obtain ⟨x0, x1, x2⟩ := hX1.cells
    clear hX9 hb1 hbel0 hs0
    go_wp2_with fail
    refine (toDevice_any _ B zs ps _ (hv.below hbel1) hzl hpl hel).mono ?_
    rintro e w2 ⟨ta, tc, rfl, hT2, hb2⟩
    have hX2 := hX1.below hb2
    have hs2 := hb2.size
    have hbel2 := hbel1.trans (hb2.mono hbel1.size)
    clear x0 x1 x2 hX1 hb2 hbel1
    go_wp2_with fail
    refine (toStepS_any _ ss _ (hkv.below hbel2) hsl hsd).mono ?_
    rintro e w3 ⟨rfl, hK3, hb3⟩
    have hX3 := hX2.below hb3
    have hT3 := hT2.below hb3
    have hs3 := hb3.size
    have hbel3 := hbel2.trans (hb3.mono hbel2.size)
    clear hX2 hT2 hb3 hbel2
    go_wp2_with fail
    refine (specApply_any count _ ss B _ _ _ _ zs ps _ hT3.read (Nat.le_refl _) hzl hpl hel hK3.read hsl hsd hc1 hc2).mono ?_
    rintro e w4 ⟨wa, wc, wd, we, rfl, hW4, hb4⟩
    have hX4 := hX3.below hb4
    have hs4 := hb4.size
    have hbel4 := hbel3.trans (hb4.mono hbel3.size)
    obtain ⟨x0, x1, x2⟩ := hX4.cells
    have hxl := hX4.lt
    clear hX3 hT3 hb4 hbel3
    have hb5 := belowA w4 (.cells #[.int .i64 (gB B zs ps), .slice wa (aZ B zs ps ss count).length wc, .slice wd (aP B zs ps ss count).length we] 25)
    have hA5 := Box3.made w4 (.int .i64 (gB B zs ps)) (.slice wa (aZ B zs ps ss count).length wc) (.slice wd (aP B zs ps ss count).length we) 25 _ rfl
    have hX5 := hX4.below hb5
    have hW5 := hW4.below hb5
    have hbel5 := hbel4.trans (hb5.mono hbel4.size)
    clear hX4 hW4 hb5 hbel4
    -- x0
    go_wp2_with fail
    refine (toDevice_any _ B zs ps _ (hv.below hbel5) hzl hpl hel).mono ?_
    rintro e w6 ⟨xa, xc, rfl, hD6, hb6⟩
    simp only [World.size_alloc] at hD6
    have hX6 := hX5.below hb6
    have hA6 := hA5.below hb6
    have hW6 := hW5.below hb6
    have hs6 : w4.heap.size + 1 ≤ w6.heap.size := by have := hb6.size; simpa using this
    have hbel6 := hbel5.trans (hb6.mono hbel5.size)
    clear x0 x1 x2 hxl hX5 hA5 hW5 hb6 hbel5
    have hb7 := belowA w6 (.cells #[.int .i64 B, .slice xa zs.length zs.length, .slice xc ps.length ps.length] 25)
    have hY7 := Box3.made w6 (.int .i64 B) (.slice xa zs.length zs.length) (.slice xc ps.length ps.length) 25 _ rfl
    have hX7 := hX6.below hb7
    have hA7 := hA6.below hb7
    have hW7 := hW6.below hb7
    have hD7 := hD6.below hb7
    have hbel7 := hbel6.trans (hb7.mono hbel6.size)
    clear hX6 hA6 hW6 hD6 hb7 hbel6
    go_wp2_with fail
    refine (toStepS_any _ ss _ (hkv.below hbel7) hsl hsd).mono ?_
    rintro e w8 ⟨rfl, hK8, hb8⟩
    simp only [World.size_alloc] at hK8
    have hX8 := hX7.below hb8
    have hA8 := hA7.below hb8
    have hY8 := hY7.below hb8
    have hW8 := hW7.below hb8
    have hD8 := hD7.below hb8
    have hs8 : w6.heap.size + 1 ≤ w8.heap.size := by have := hb8.size; simpa using this
    have hbel8 := hbel7.trans (hb8.mono hbel7.size)
    clear hX7 hA7 hY7 hW7 hD7 hb8 hbel7
    obtain ⟨y0, y1, y2⟩ := hY8.cells
    go_wp2_with fail
    refine (implApply_any count _ ss B _ _ _ _ zs ps _ hD8.read (Nat.le_refl _) hzl hpl hel hK8.read hsl hsd hc1 hc2).mono ?_
    rintro e w9 ⟨ga, gc, gd, ge, rfl, hG9, hb9⟩
    have hK9 := hK8.below hb9
    have hX9 := hX8.below hb9
    have hA9 := hA8.below hb9
    have hY9 := hY8.below hb9
    have hW9 := hW8.below hb9
    have hD9 := hD8.below hb9
    have hs9 := hb9.size
    have hbel9 := hbel8.trans (hb9.mono hbel8.size)
    clear y0 y1 y2 hK8 hX8 hA8 hY8 hW8 hD8 hb9 hbel8
    obtain ⟨a0, a1, a2⟩ := hA9.cells
    have hal := hA9.lt
    have hb10 := belowA w9 (.cells #[.int .i64 (gB B zs ps), .slice ga (aZ B zs ps ss count).length gc, .slice gd (aP B zs ps ss count).length ge] 25)
    have hB10 := Box3.made w9 (.int .i64 (gB B zs ps)) (.slice ga (aZ B zs ps ss count).length gc) (.slice gd (aP B zs ps ss count).length ge) 25 _ rfl
    have hK10 := hK9.below hb10
    have hX10 := hX9.below hb10
    have hA10 := hA9.below hb10
    have hY10 := hY9.below hb10
    have hW10 := hW9.below hb10
    have hD10 := hD9.below hb10
    have hG10 := hG9.below hb10
    have hbel10 := hbel9.trans (hb10.mono hbel9.size)
    clear hK9 hX9 hA9 hY9 hW9 hD9 hG9 hb10 hbel9
    go_wp2_with fail
    refine (eqDev (gB B zs ps) _ _ (aZ B zs ps ss count) (aP B zs ps ss count) _ hG10.read hW10.read hfl' hps0).mono ?_
    rintro e w11 ⟨rfl, hb11⟩
    have hK11 := hK10.below hb11
    have hX11 := hX10.below hb11
    have hA11 := hA10.below hb11
    have hY11 := hY10.below hb11
    have hW11 := hW10.below hb11
    have hD11 := hD10.below hb11
    have hG11 := hG10.below hb11
    have hB11 := hB10.below hb11
    have hs11 : w9.heap.size + 1 ≤ w11.heap.size := by have := hb11.size; simpa using this
    have hbel11 := hbel10.trans (hb11.mono hbel10.size)
    clear a0 a1 a2 hal hK10 hX10 hA10 hY10 hW10 hD10 hG10 hB10 hb11 hbel10
    obtain ⟨x0, x1, x2⟩ := hX11.cells
    obtain ⟨y0, y1, y2⟩ := hY11.cells
    go_wp2_with fail
    go_region_held3 (fun w' => w'.cell? ⟨w.heap.size, 0, none⟩ = some (.int .i64 B) ∧ w'.cell? ⟨w.heap.size, 1, none⟩ = some (.slice va zs.length vc) ∧ w'.cell? ⟨w.heap.size, 2, none⟩ = some (.slice vb ps.length vd) ∧ w'.cell? ⟨w6.heap.size, 0, none⟩ = some (.int .i64 B) ∧ w'.cell? ⟨w6.heap.size, 1, none⟩ = some (.slice xa zs.length zs.length) ∧ w'.cell? ⟨w6.heap.size, 2, none⟩ = some (.slice xc ps.length ps.length)) (first | go_keep | assumption)
      (first | (go_at_call 28; refine (toDevice_any _ B zs ps _ ?_ hzl hpl hel).mono ?_; exact (hv.below hbel11).below (Below.refl _ _).drew; rintro e w12 ⟨ta, tc, rfl, hT12, hb12⟩; have hXX := boxes hX11 hY11 hb12) | (go_at_call 13; refine (eqDev B _ _ zs ps _ ?_ ?_ (by omega) hps).mono ?_; exact ((hD11.below (Below.refl _ _).drew).below hb12).read; exact hT12.read; rintro e w13 ⟨rfl, hb13⟩; have hXX13 := boxes2 hXX hb13))
    have hb113 : Below w11.heap.size w11 w13 := ((Below.refl w11.heap.size w11).drew.trans hb12).trans (hb13.mono hb12.size)
    clear x0 x1 x2 y0 y1 y2 hXX hXX13 hT12 hb12 hb13
    have hK13 := hK11.below hb113
    have hX13 := hX11.below hb113
    have hA13 := hA11.below hb113
    have hY13 := hY11.below hb113
    have hW13 := hW11.below hb113
    have hD13 := hD11.below hb113
    have hG13 := hG11.below hb113
    have hB13 := hB11.below hb113
    have hs13 := hb113.size
    have hbel13 := hbel11.trans (hb113.mono hbel11.size)
    clear hK11 hX11 hA11 hY11 hW11 hD11 hG11 hB11 hb113 hbel11
    go_wp2_with fail
    refine (toStepS_any _ ss _ (hkv.below hbel13) hsl hsd).mono ?_
    rintro e w14 ⟨rfl, hL14, hb14⟩
    have hK14 := hK13.below hb14
    have hX14 := hX13.below hb14
    have hA14 := hA13.below hb14
    have hY14 := hY13.below hb14
    have hW14 := hW13.below hb14
    have hD14 := hD13.below hb14
    have hG14 := hG13.below hb14
    have hB14 := hB13.below hb14
    have hs14 := hb14.size
    have hbel14 := hbel13.trans (hb14.mono hbel13.size)
    clear  hK13 hX13 hA13 hY13 hW13 hD13 hG13 hB13 hbel13 hb14
    go_wp2_with fail
    refine (eqStepS_same _ _ ss _ hK14.read hL14.read hss).mono ?_
    rintro e w15 ⟨rfl, hb15⟩
    have hK15 := hK14.below hb15
    have hX15 := hX14.below hb15
    have hA15 := hA14.below hb15
    have hY15 := hY14.below hb15
    have hW15 := hW14.below hb15
    have hD15 := hD14.below hb15
    have hG15 := hG14.below hb15
    have hB15 := hB14.below hb15
    have hs15 := hb15.size
    have hbel15 := hbel14.trans (hb15.mono hbel14.size)
    clear hL14 hK14 hX14 hA14 hY14 hW14 hD14 hG14 hB14 hbel14 hb15
    obtain ⟨y0, y1, y2⟩ := hY15.cells
    go_wp2_with fail
    refine (markDevice_any _ _ B _ zs ps 1 _ hD15 (by omega) (by omega) (by omega) (by omega)).mono ?_
    rintro e w16 ⟨rfl, -, hu16⟩
    have hK16 := hK15.upd hu16 (by omega)
    have hX16 := hX15.upd hu16 (by omega)
    have hA16 := hA15.upd hu16 (by omega)
    have hW16 := hW15.upd hu16 (by omega)
    have hG16 := hG15.upd hu16 (by omega)
    have hB16 := hB15.upd hu16 (by omega)
    have hs16 := hu16.size
    have hbel16 := hbel15.trans (hu16.below (by omega) (by omega))
    clear y0 y1 y2 hK15 hX15 hA15 hW15 hG15 hB15 hD15 hY15 hbel15 hu16
    go_wp2_with fail
    refine (markStepS_any _ _ _ ss _ _ hK16 (by omega) (by omega) (by omega)).mono ?_
    rintro e w17 ⟨rfl, hu17⟩
    have hX17 := hX16.upd hu17 (by omega)
    have hA17 := hA16.upd hu17 (by omega)
    have hW17 := hW16.upd hu17 (by omega)
    have hG17 := hG16.upd hu17 (by omega)
    have hB17 := hB16.upd hu17 (by omega)
    have hs17 := hu17.size
    have hbel17 := hbel16.trans (hu17.below (by omega) (by omega))
    clear  hX16 hA16 hW16 hG16 hB16 hK16 hbel16 hu17
    obtain ⟨a0, a1, a2⟩ := hA17.cells
    obtain ⟨b0, b1, b2⟩ := hB17.cells
    go_wp2_with fail
    refine (eqDev (gB B zs ps) _ _ (aZ B zs ps ss count) (aP B zs ps ss count) _ hG17.read hW17.read hfl' hps0).mono ?_
    rintro e w18 ⟨rfl, hb18⟩
    have hX18 := hX17.below hb18
    have hA18 := hA17.below hb18
    have hW18 := hW17.below hb18
    have hG18 := hG17.below hb18
    have hB18 := hB17.below hb18
    have hs18 := hb18.size
    have hbel18 := hbel17.trans (hb18.mono hbel17.size)
    clear a0 a1 a2 b0 b1 b2 hX17 hA17 hW17 hG17 hB17 hbel17 hb18
    obtain ⟨b0, b1, b2⟩ := hB18.cells
    go_wp2_with fail
    refine (markDevice_X _ _ (gB B zs ps) _ (aZ B zs ps ss count) (aP B zs ps ss count) 1 _ hG18 (by omega) (by omega) (by omega) (by omega)).mono ?_
    rintro e w19 ⟨rfl, hG19, hu19⟩
    have hX19 := hX18.upd hu19 (by omega)
    have hA19 := hA18.upd hu19 (by omega)
    have hW19 := hW18.upd hu19 (by omega)
    have hB19 := hB18.upd hu19 (by omega)
    have hs19 := hu19.size
    have hbel19 := hbel18.trans (hu19.below (by omega) (by omega))
    clear b0 b1 b2 hX18 hA18 hW18 hB18 hG18 hbel18 hu19
    obtain ⟨b0, b1, b2⟩ := hB19.cells
    go_wp2_with fail
    refine (heldDevice_any (gB B zs ps) _ (aZ B zs ps ss count).length (aP B zs ps ss count) 1 _ hG19.read (by omega) (by omega) (by omega)).mono ?_
    rintro e w20 ⟨rfl, hb20⟩
    have hX20 := hX19.below hb20
    have hA20 := hA19.below hb20
    have hW20 := hW19.below hb20
    have hs20 := hb20.size
    have hbel20 := hbel19.trans (hb20.mono hbel19.size)
    clear b0 b1 b2 hX19 hA19 hW19 hB19 hG19 hbel19 hb20
    obtain ⟨x0, x1, x2⟩ := hX20.cells
    go_wp2_with fail
    refine (toDevice_any _ B zs ps _ (hv.below hbel20) hzl hpl hel).mono ?_
    rintro e w21 ⟨ua, uc, rfl, hU21, hb21⟩
    have hA21 := hA20.below hb21
    have hW21 := hW20.below hb21
    have hs21 := hb21.size
    have hbel21 := hbel20.trans (hb21.mono hbel20.size)
    clear x0 x1 x2 hA20 hW20 hX20 hbel20 hb21
    go_wp2_with fail
    refine (toStepS_any _ ss _ (hkv.below hbel21) hsl hsd).mono ?_
    rintro e w22 ⟨rfl, hM22, hb22⟩
    have hA22 := hA21.below hb22
    have hW22 := hW21.below hb22
    have hU22 := hU21.below hb22
    have hs22 := hb22.size
    have hbel22 := hbel21.trans (hb22.mono hbel21.size)
    clear  hA21 hW21 hU21 hbel21 hb22
    go_wp2_with fail
    refine (implApply_any count _ ss B _ _ _ _ zs ps _ hU22.read (Nat.le_refl _) hzl hpl hel hM22.read hsl hsd hc1 hc2).mono ?_
    rintro e w23 ⟨pa, pc, pd, pe, rfl, hH23, hb23⟩
    have hA23 := hA22.below hb23
    have hW23 := hW22.below hb23
    have hs23 := hb23.size
    have hbel23 := hbel22.trans (hb23.mono hbel22.size)
    clear  hA22 hW22 hU22 hM22 hbel22 hb23
    have hbZ := belowA w23 (.cells #[.int .i64 (gB B zs ps), .slice pa (aZ B zs ps ss count).length pc, .slice pd (aP B zs ps ss count).length pe] 25)
    have hHZ := hH23.below hbZ
    have hWZ := hW23.below hbZ
    have hbelZ := hbel23.trans (hbZ.mono hbel23.size)
    obtain ⟨a0, a1, a2⟩ := hA23.cells
    have hlt := hA23.lt
    clear hH23 hW23 hbel23 hbZ hA23
    go_wp2_with fail
    refine (eqDev (gB B zs ps) _ _ (aZ B zs ps ss count) (aP B zs ps ss count) _ hHZ.read hWZ.read hfl' hps0).mono ?_
    rintro e wF ⟨rfl, hbF⟩
    have hbelF := hbelZ.trans (hbF.mono hbelZ.size)
    clear a0 a1 a2 hlt hHZ hWZ hbelZ hbF
    go_wp2
    go_ret
    exact ⟨rfl, hbelF⟩
end Go.Proofs.Ytanebeebphaolaa
