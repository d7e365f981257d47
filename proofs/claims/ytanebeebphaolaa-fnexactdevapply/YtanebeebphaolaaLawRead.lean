import Derived.Test.YtanebeebphaolaaRd3
import Derived.Deep.RegionHeld3
namespace Go.Proofs.Ytanebeebphaolaa
open Go.RowKit

/-- lengths that no machine passes -/
def PBound (ps : List (Int × List Int)) : Prop := ps.length ≤ 9223372036854775807 ∧ ∀ i, (ps.getD i (0, [])).2.length ≤ 9223372036854775807

theorem sumP_len (ps : List (Int × List Int)) : (ps.length : Int) ≤ sumP ps := by
  have := dataP_nonneg ps
  simp only [dataP] at this; omega

theorem sumP_el (ps : List (Int × List Int)) (i : Nat) : ((ps.getD i (0, [])).2.length : Int) ≤ sumP ps := by
  by_cases hi : i < ps.length
  · have h1 := sumP_take_succ ps i hi
    have h2 := sumP_take_le ps (i + 1)
    have h3 := sumP_nonneg (ps.take i)
    omega
  · simp only [List.getD_eq_getElem?_getD, List.getElem?_eq_none (Nat.le_of_not_lt hi), Option.getD_none, List.length_nil]
    exact sumP_nonneg ps

theorem boxes {w w1 : World} {g h : Nat} {x0 x1 x2 y0 y1 y2 : Value} {t s : TypeId} (hX : Box3 w g x0 x1 x2 t) (hY : Box3 w h y0 y1 y2 s) (hb : Below w.drew.heap.size w.drew w1) :
    w1.cell? ⟨g, 0, none⟩ = some x0 ∧ w1.cell? ⟨g, 1, none⟩ = some x1 ∧ w1.cell? ⟨g, 2, none⟩ = some x2 ∧ w1.cell? ⟨h, 0, none⟩ = some y0 ∧ w1.cell? ⟨h, 1, none⟩ = some y1 ∧ w1.cell? ⟨h, 2, none⟩ = some y2 := by
  have h1 := (Box3.below (w := w.drew) hX hb).cells
  have h2 := (Box3.below (w := w.drew) hY hb).cells
  exact ⟨h1.1, h1.2.1, h1.2.2, h2.1, h2.2.1, h2.2.2⟩

theorem boxes2 {w w1 : World} {g h : Nat} {x0 x1 x2 y0 y1 y2 : Value} (hX : w.cell? ⟨g, 0, none⟩ = some x0 ∧ w.cell? ⟨g, 1, none⟩ = some x1 ∧ w.cell? ⟨g, 2, none⟩ = some x2 ∧ w.cell? ⟨h, 0, none⟩ = some y0 ∧ w.cell? ⟨h, 1, none⟩ = some y1 ∧ w.cell? ⟨h, 2, none⟩ = some y2) (hb : Below w.heap.size w w1) :
    w1.cell? ⟨g, 0, none⟩ = some x0 ∧ w1.cell? ⟨g, 1, none⟩ = some x1 ∧ w1.cell? ⟨g, 2, none⟩ = some x2 ∧ w1.cell? ⟨h, 0, none⟩ = some y0 ∧ w1.cell? ⟨h, 1, none⟩ = some y1 ∧ w1.cell? ⟨h, 2, none⟩ = some y2 := by
  obtain ⟨a0, a1, a2, b0, b1, b2⟩ := hX
  have h1 := World.block_lt_of_cell? _ _ a0
  have h2 := World.block_lt_of_cell? _ _ b0
  exact ⟨(hb.cell (p := ⟨g, 0, none⟩) h1).trans a0, (hb.cell (p := ⟨g, 1, none⟩) h1).trans a1, (hb.cell (p := ⟨g, 2, none⟩) h1).trans a2, (hb.cell (p := ⟨h, 0, none⟩) h2).trans b0, (hb.cell (p := ⟨h, 1, none⟩) h2).trans b1, (hb.cell (p := ⟨h, 2, none⟩) h2).trans b2⟩

set_option maxHeartbeats 4000000 in
theorem devRead_walk (B q : Int) (va vb : Option Addr) (vc vd : Nat) (zs : List Int) (ps : List (Int × List Int)) (w : World) (hv : DRead w (.agg #[.int .i64 B, .slice va zs.length vc, .slice vb ps.length vd]) B zs ps) (hzb : zs.length ≤ 9223372036854775807) (hpb : PBound ps) :
    Calls Try.prog 5 #[.agg #[.int .i64 B, .slice va zs.length vc, .slice vb ps.length vd], .int .i64 q] w fun e w' => e = .returned (.bool true) ∧ Below w.heap.size w w' := by
  have hb0 := belowA w (.cells #[.int .i64 B, .slice va zs.length vc, .slice vb ps.length vd] 50)
  have hX := Box3.made w (.int .i64 B) (.slice va zs.length vc) (.slice vb ps.length vd) 50 _ rfl
  have hv0 := hv.below hb0
  have hsn := sumP_nonneg ps
  by_cases hsz : (1048576 : Int) - zs.length - sumP ps < 0
  · have hr : szR (1048576 - zs.length - sumP ps) < 0 := by rw [szR_neg hsz]; omega
    go_enter Try.func5, Try.ntmps5
    go_wp2_with fail
    refine (szDevice_any B _ zs ps _ _ hv0 hzb hpb.1 hpb.2 (by omega) (by omega)).mono ?_
    rintro e w1 ⟨rfl, hb1⟩
    have hbel := hb0.trans (hb1.mono hb0.size)
    clear hb1 hX hv0
    go_wp2
    go_ret
    exact ⟨rfl, hbel⟩
  · have hr : 0 ≤ szR (1048576 - zs.length - sumP ps) := by rw [szR_pos (by omega)]; omega
    have hzl : zs.length ≤ 1048576 := by omega
    have hpl : ps.length ≤ 1048576 := by have := sumP_len ps; omega
    have hel : ∀ i, (ps.getD i (0, [])).2.length ≤ 1048576 := fun i => by have := sumP_el ps i; omega
    have hps : PSmall ps := ⟨by omega, fun i => by have := hel i; omega⟩
    have hrl := rdBytes_length B q zs ps
    have hne : (rdCode B q zs ps != rdCode B q zs ps) = false := by simp
    go_enter Try.func5, Try.ntmps5
    go_wp2_with fail
    refine (szDevice_any B _ zs ps _ _ hv0 hzb hpb.1 hpb.2 (by omega) (by omega)).mono ?_
    rintro e w1 ⟨rfl, hb1⟩
    have hX1 := hX.below hb1
    have hs1 : w.heap.size + 1 ≤ w1.heap.size := by have := hb1.size; simpa using this
    have hbel1 := hb0.trans (hb1.mono hb0.size)
    obtain ⟨x0, x1, x2⟩ := hX1.cells
    clear hX hv0 hb1 hb0
    -- the specification's answer
    go_wp2_with fail
    refine (toDevice_any _ B zs ps _ (hv.below hbel1) hzl hpl hel).mono ?_
    rintro e w2 ⟨ta, tc, rfl, hT2, hb2⟩
    have hX2 := hX1.below hb2
    have hs2 := hb2.size
    have hbel2 := hbel1.trans (hb2.mono hbel1.size)
    clear x0 x1 x2 hX1 hb2 hbel1
    go_wp2_with fail
    refine (specRead_any B q _ _ _ _ zs ps _ hT2.read (Nat.le_refl _) hzl hpl hel).mono ?_
    rintro e w3 ⟨wa, wc, rfl, hW3, hb3⟩
    have hX3 := hX2.below hb3
    have hs3 := hb3.size
    have hbel3 := hbel2.trans (hb3.mono hbel2.size)
    obtain ⟨x0, x1, x2⟩ := hX3.cells
    clear hX2 hT2 hb3 hbel2
    -- x0
    go_wp2_with fail
    refine (toDevice_any _ B zs ps _ (hv.below hbel3) hzl hpl hel).mono ?_
    rintro e w4 ⟨xa, xc, rfl, hD4, hb4⟩
    have hX4 := hX3.below hb4
    have hW4 := hW3.below hb4
    have hs4 := hb4.size
    have hbel4 := hbel3.trans (hb4.mono hbel3.size)
    clear x0 x1 x2 hX3 hW3 hb4 hbel3
    have hY5 := Box3.made w4 (.int .i64 B) (.slice xa zs.length zs.length) (.slice xc ps.length ps.length) 25 _ rfl
    have hb5 := belowA w4 (.cells #[.int .i64 B, .slice xa zs.length zs.length, .slice xc ps.length ps.length] 25)
    have hX5 := hX4.below hb5
    have hW5 := hW4.below hb5
    have hD5 := hD4.below hb5
    have hbel5 := hbel4.trans (hb5.mono hbel4.size)
    clear hX4 hW4 hD4 hb5 hbel4
    -- g0
    go_wp2_with fail
    refine (implRead_any B q _ _ _ _ zs ps _ hD5.read (Nat.le_refl _) hzl hpl hel).mono ?_
    rintro e w6 ⟨ga, gc, rfl, hG6, hb6⟩
    simp only [World.size_alloc] at hG6
    have hX6 := hX5.below hb6
    have hY6 := hY5.below hb6
    have hW6 := hW5.below hb6
    have hD6 := hD5.below hb6
    have hs6 : w4.heap.size + 1 ≤ w6.heap.size := by have := hb6.size; simpa using this
    have hbel6 := hbel5.trans (hb6.mono hbel5.size)
    clear hX5 hY5 hW5 hD5 hb6 hbel5
    go_wp2_with fail
    refine (eqByteS_own _ _ (rdBytes B q zs ps) _ hG6.bts hW6.bts (by omega)).mono ?_
    rintro e w7 ⟨rfl, hb7⟩
    have hX7 := hX6.below hb7
    have hY7 := hY6.below hb7
    have hW7 := hW6.below hb7
    have hD7 := hD6.below hb7
    have hG7 := hG6.below hb7
    have hs7 := hb7.size
    have hbel7 := hbel6.trans (hb7.mono hbel6.size)
    clear hX6 hY6 hW6 hD6 hG6 hb7 hbel6
    obtain ⟨x0, x1, x2⟩ := hX7.cells
    obtain ⟨y0, y1, y2⟩ := hY7.cells
    go_wp2_with fail
    go_region_held3 (fun w' => w'.cell? ⟨w.heap.size, 0, none⟩ = some (.int .i64 B) ∧ w'.cell? ⟨w.heap.size, 1, none⟩ = some (.slice va zs.length vc) ∧ w'.cell? ⟨w.heap.size, 2, none⟩ = some (.slice vb ps.length vd) ∧ w'.cell? ⟨w4.heap.size, 0, none⟩ = some (.int .i64 B) ∧ w'.cell? ⟨w4.heap.size, 1, none⟩ = some (.slice xa zs.length zs.length) ∧ w'.cell? ⟨w4.heap.size, 2, none⟩ = some (.slice xc ps.length ps.length)) (first | go_keep | assumption)
      (first | (go_at_call 28; refine (toDevice_any _ B zs ps _ ?_ hzl hpl hel).mono ?_; exact (hv.below hbel7).below (Below.refl _ _).drew; rintro e w8 ⟨ta, tc, rfl, hT8, hb8⟩; have hXX := boxes hX7 hY7 hb8) | (go_at_call 13; refine (eqDev B _ _ zs ps _ ?_ ?_ (by omega) hps).mono ?_; exact ((hD7.below (Below.refl _ _).drew).below hb8).read; exact hT8.read; rintro e w9 ⟨rfl, hb9⟩; have hXX9 := boxes2 hXX hb9))
    have hb79 : Below w7.heap.size w7 w9 := ((Below.refl w7.heap.size w7).drew.trans hb8).trans (hb9.mono hb8.size)
    clear x0 x1 x2 y0 y1 y2 hXX hXX9 hT8 hb8 hb9
    have hX9 := hX7.below hb79
    have hY9 := hY7.below hb79
    have hW9 := hW7.below hb79
    have hD9 := hD7.below hb79
    have hG9 := hG7.below hb79
    have hs9 := hb79.size
    have hbel9 := hbel7.trans (hb79.mono hbel7.size)
    clear hX7 hY7 hW7 hD7 hG7 hb79 hbel7
    obtain ⟨y0, y1, y2⟩ := hY9.cells
    -- x0 is marked
    go_wp2_with fail
    refine (markDevice_any _ _ B _ zs ps 1 _ hD9 (by omega) (by omega) (by omega) (by omega)).mono ?_
    rintro e w10 ⟨rfl, -, hu10⟩
    have hX10 := hX9.upd hu10 (by omega)
    have hW10 := hW9.upd hu10 (by omega)
    have hG10 := hG9.upd hu10 (by omega)
    have hs10 := hu10.size
    have hbel10 := hbel9.trans (hu10.below (by omega) (by omega))
    clear y0 y1 y2 hX9 hY9 hW9 hD9 hG9 hbel9 hu10
    go_wp2_with fail
    refine (eqByteS_own _ _ (rdBytes B q zs ps) _ hG10.bts hW10.bts (by omega)).mono ?_
    rintro e w11 ⟨rfl, hb11⟩
    have hX11 := hX10.below hb11
    have hW11 := hW10.below hb11
    have hG11 := hG10.below hb11
    have hs11 := hb11.size
    have hbel11 := hbel10.trans (hb11.mono hbel10.size)
    clear hX10 hW10 hG10 hbel10 hb11
    -- g0 is marked and held
    go_wp2_with fail
    refine (markByteS_any _ _ _ (rdBytes B q zs ps) 1 _ hG11 (by omega) (by omega)).mono ?_
    rintro e w12 ⟨rfl, hG12, hu12⟩
    have hX12 := hX11.upd hu12 (by omega)
    have hW12 := hW11.upd hu12 (by omega)
    have hs12 := hu12.size
    have hbel12 := hbel11.trans (hu12.below (by omega) (by omega))
    clear hX11 hW11 hG11 hbel11 hu12
    go_wp2_with fail
    refine (heldByteS_any _ 1 (rdBytes B q zs ps).length _ hG12.bts (by omega) (by omega)).mono ?_
    rintro e w13 ⟨rfl, rfl⟩
    obtain ⟨x0, x1, x2⟩ := hX12.cells
    clear hG12
    -- once more
    go_wp2_with fail
    refine (toDevice_any _ B zs ps _ (hv.below hbel12) hzl hpl hel).mono ?_
    rintro e w14 ⟨ua, uc, rfl, hU14, hb14⟩
    have hW14 := hW12.below hb14
    have hs14 := hb14.size
    have hbel14 := hbel12.trans (hb14.mono hbel12.size)
    clear x0 x1 x2 hX12 hW12 hb14 hbel12
    go_wp2_with fail
    refine (implRead_any B q _ _ _ _ zs ps _ hU14.read (Nat.le_refl _) hzl hpl hel).mono ?_
    rintro e w15 ⟨ha, hc, rfl, hH15, hb15⟩
    have hW15 := hW14.below hb15
    have hbel15 := hbel14.trans (hb15.mono hbel14.size)
    clear hW14 hU14 hb15 hbel14
    go_wp2_with fail
    refine (eqByteS_own _ _ (rdBytes B q zs ps) _ hH15.bts hW15.bts (by omega)).mono ?_
    rintro e w16 ⟨rfl, hb16⟩
    have hbel16 := hbel15.trans (hb16.mono hbel15.size)
    clear hW15 hH15 hb16 hbel15
    go_wp2
    go_ret
    exact ⟨rfl, hbel16⟩
end Go.Proofs.Ytanebeebphaolaa
