import Derived.Test.YtamblkibmlfklabDoorPl2a
namespace Go.Proofs.YtamblkibmlfklabDoor
open Go.RowKit Go.Shelf
set_option linter.unusedVariables false
attribute [local go_sem] Oper.semAt_some

set_option maxRecDepth 100000 in
set_option maxHeartbeats 400000 in
theorem implPlan_in (F : Fence) (n : Nat) (hW : ∀ {n f args w R}, Calls Tryd.prog f args w R → CallsIn F n Tryd.prog f args w R) (hfn : ∀ f, F.fn f) (hro : F.round = none) (hn : 3 ≤ n) (a a' : Option Addr) (c c' : Nat) (zs ys : List Int) (w : World) (hv : Nts w (.slice a zs.length c) zs) (hv' : Nts w (.slice a' ys.length c') ys) (hok : chk [zs, ys] = 0) :
    CallsIn F n Tryd.prog 6 #[.slice a zs.length c, .slice a' ys.length c'] w fun e w' => ∃ u v, e = .returned (.tuple #[u, v, .int .i64 (plC zs ys)]) ∧ Row64 w.heap.size w' u (plP zs ys) ∧ RRow w.heap.size w' v (plR zs ys) ∧ Below w.heap.size w w' := by
  obtain ⟨hl, hc1, hc2⟩ := chk_two_ok hok
  have hz := (chk_ok hc1).1
  have HL : Hid (ys.length = zs.length) := hl.symm
  have hn1 : 1 ≤ n := by omega
  clear hc1 hc2 hl
  have g1 := hfn 18
  have g2 := hfn 19
  have g3 := hfn 20
  refine callsIn_of_wp_marks Tryd.func6 rfl (hfn _) ?_ hro
  simp only [Tryd.ntmps6, List.size_toArray, List.length_cons, List.length_nil, Nat.reduceAdd, Nat.reduceSub, Array.replicate_succ, Array.replicate_zero, List.push_toArray, List.append_toArray, List.nil_append, List.cons_append]
  gi_wp2_with fail
  have b0 := ((Boxed.new w 23 (.slice none 0 0)).alloc (.cells #[.slice none 0 0] 26)).alloc (.cells #[.int .i64 0] 2)
  have b1 := (Boxed.new (w.alloc (.cells #[.slice none 0 0] 23)) 26 (.slice none 0 0)).alloc (.cells #[.int .i64 0] 2)
  have b2 := Boxed.new ((w.alloc (.cells #[.slice none 0 0] 23)).alloc (.cells #[.slice none 0 0] 26)) 2 (.int .i64 0)
  simp only [World.size_alloc] at b1 b2
  have hB0 : Below w.heap.size w (((w.alloc (.cells #[.slice none 0 0] 23)).alloc (.cells #[.slice none 0 0] 26)).alloc (.cells #[.int .i64 0] 2)) := (((Below.refl _ w).alloc (Nat.le_refl _) _).alloc (by simp) _).alloc (by simp; omega) _
  refine (hW (checkCounts_any _ [zs, ys] _ (LRd.two (hv.below hB0) (hv'.below hB0) _ _ (by simp)) (by simp) (by simp) (two_small (by omega) (by rw [HL.out]; omega)))).mono ?_
  rintro e w1 ⟨rfl, hw1⟩
  rw [hok]
  have r0 := (b0.alloc (.cells #[.slice a zs.length c, .slice a' ys.length c'] 23))
  have r1 := (b1.alloc (.cells #[.slice a zs.length c, .slice a' ys.length c'] 23))
  have r2 := (b2.alloc (.cells #[.slice a zs.length c, .slice a' ys.length c'] 23))
  have hB1 := hB0.trans ((belowA _ (.cells #[.slice a zs.length c, .slice a' ys.length c'] 23)).mono hB0.size)
  rw [hw1] at r0 r1 r2 hB1
  have hs1 : w.heap.size + 3 < w1.heap.size := by rw [← hw1]; simp
  clear hw1 b0 b1 b2 hB0
  gi_wp2_with fail
  refine (hW (clone64_any _ _ zs _ (by omega) (by omega) (hv.below hB1))).mono ?_
  rintro e w2 ⟨u, rfl, hR2, hB2⟩
  obtain ⟨g, cap, rfl⟩ : ∃ g cap, u = .slice (some ⟨g, 0, none⟩) zs.length cap := by
    obtain ⟨m, hm⟩ : ∃ m, zs.length = m + 1 := ⟨zs.length - 1, by omega⟩
    have hR3 := hR2
    unfold Row64 at hR3
    rw [hm] at hR3 ⊢
    exact ownsRow_succ hR3
  gi_wp2_with (gi_at_call 20; refine (freeBlocks_in F (n - 1) g3 hro _ _ _ ⟨_, _, _, rfl⟩ ⟨_, _, _, rfl⟩).mono ?_; rintro e w' ⟨rfl, rfl⟩)
  have hO2 := hR2.own hv.small
  obtain ⟨hg1, hg2⟩ : w1.heap.size ≤ g ∧ g < w2.heap.size := by
    have := World.ownsRow.lt hR2 g rfl
    exact this
  have hO3 : Own64 g (g + 1) w2 (.slice (some ⟨g, 0, none⟩) zs.length cap) zs := by
    obtain ⟨_, _, he, hs⟩ := hO2.shape
    refine ⟨hv.small, _, _, rfl, fun hp => ?_⟩
    simp only [Value.slice.injEq, true_and] at he
    obtain ⟨rfl, rfl⟩ := he
    obtain ⟨_, _, he, _, _, h3, h4⟩ := hs hp
    simp only [Option.some.injEq, Addr.mk.injEq, and_true] at he
    obtain ⟨rfl, rfl⟩ := he
    exact ⟨g, 0, rfl, Nat.le_refl _, Nat.lt_succ_self _, h3, h4⟩
  have bC := Boxed.new w2 23 (.slice (some ⟨g, 0, none⟩) zs.length cap)
  have bP := Boxed.new (w2.alloc (.cells #[.slice (some ⟨g, 0, none⟩) zs.length cap] 23)) 23 (.slice none 0 0)
  have bS := Boxed.new ((w2.alloc (.cells #[.slice (some ⟨g, 0, none⟩) zs.length cap] 23)).alloc (.cells #[.slice none 0 0] 23)) 23 (.slice a zs.length c)
  have bT := Boxed.new (((w2.alloc (.cells #[.slice (some ⟨g, 0, none⟩) zs.length cap] 23)).alloc (.cells #[.slice none 0 0] 23)).alloc (.cells #[.slice a zs.length c] 23)) 23 (.slice a' ys.length c')
  simp only [World.size_alloc] at bP bS bT
  have hBA : Below w2.heap.size w2 ((((w2.alloc (.cells #[.slice (some ⟨g, 0, none⟩) zs.length cap] 23)).alloc (.cells #[.slice none 0 0] 23)).alloc (.cells #[.slice a zs.length c] 23)).alloc (.cells #[.slice a' ys.length c'] 23)) := ((((Below.refl _ w2).alloc (Nat.le_refl _) _).alloc (by simp) _).alloc (by simp; omega) _).alloc (by simp; omega) _
  have hBw2 : Below w.heap.size w w2 := hB1.trans (hB2.mono hB1.size)
  have hS0 : PlS w w2.heap.size g cap (.slice a zs.length c) (.slice a' ys.length c') zs [] (.slice none 0 0) ((((w2.alloc (.cells #[.slice (some ⟨g, 0, none⟩) zs.length cap] 23)).alloc (.cells #[.slice none 0 0] 23)).alloc (.cells #[.slice a zs.length c] 23)).alloc (.cells #[.slice a' ys.length c'] 23)) :=
    ⟨(bP.alloc _).alloc _, World.ownsRow_nil _ _ _ _, ((bC.alloc _).alloc _).alloc _, hO3.below hBA, boxed_below (boxed_below r0 hB2) hBA, boxed_below (boxed_below r1 hB2) hBA, boxed_below (boxed_below r2 hB2) hBA, bS.alloc _, bT, hBw2.trans (hBA.mono hBw2.size)⟩
  have hBw3 := hS0.bel
  have hsz : ((((w2.alloc (.cells #[.slice (some ⟨g, 0, none⟩) zs.length cap] 23)).alloc (.cells #[.slice none 0 0] 23)).alloc (.cells #[.slice a zs.length c] 23)).alloc (.cells #[.slice a' ys.length c'] 23)).heap.size = w2.heap.size + 4 := by simp
  obtain ⟨W3, hW3⟩ : ∃ W3, ((((w2.alloc (.cells #[.slice (some ⟨g, 0, none⟩) zs.length cap] 23)).alloc (.cells #[.slice none 0 0] 23)).alloc (.cells #[.slice a zs.length c] 23)).alloc (.cells #[.slice a' ys.length c'] 23)) = W3 := ⟨_, rfl⟩
  rw [hW3] at hS0 hBw3 hsz ⊢
  have HSZ : Hid (W3.heap.size = w2.heap.size + 4) := hsz
  have hww2 := hBw2.size
  generalize hs : w2.heap.size = s at *
  have hsW3 : s ≤ W3.heap.size := by omega
  have hs3 : w.heap.size + 3 < s := by omega
  have hgw : w.heap.size + 3 < g := by omega
  clear hW3 bC bP bS bT hBA hBw2 hO2 hO3 hR2 hB2 r0 r1 r2 hsz hs hB1
  refine wpIn_rangeFunc_ownF hro hn1 (gf := 35) (lb := #[.pointer (some ⟨s + 1 + 1, 0, none⟩), .pointer (some ⟨s + 1 + 1 + 1, 0, none⟩)]) rfl (hfn _) (enters_of Tryd.func35 (by kernel_rfl) rfl)
    (free_stops F (n - 1) (hfn _) hro (by omega) (s + 1 + 1) (s + 1 + 1 + 1) w.heap.size a a' c c' zs ys HL.out (by omega) (by omega) W3 (by have := HSZ.out; omega) (by have := HSZ.out; omega) (by omega) hS0.bs.cell hS0.bt.cell w hv hv' (by omega) hBw3) KpF.trans (KpF.put (by omega) (by have := HSZ.out; omega) (by have := HSZ.out; omega)) (Below.refl _ _) (fun _ => rfl)
    (fun pre W => (∃ v, PlS w s g cap (.slice a zs.length c) (.slice a' ys.length c') zs pre v W) ∧ ∀ j, j < pre.length → good zs (pre.take (j + 1)) = false)
    (fun k pre W => PlE w s zs pre W ∧ (k = .ret ∧ ∃ (p : List (Blk zs.length)) (x : Blk zs.length), pre = p ++ [x] ∧ good zs pre = true ∧ ∀ j : Nat, j < p.length → good zs (p.take (j + 1)) = false))
    (fun x X Y row hh hg hr => ⟨plS_own (by omega) x X Y row hh.1 hg (fun r e => ⟨Nat.le_trans hsW3 (hr r e).1, (hr r e).2⟩), hh.2⟩)
    (fun k x X Y row hh hg hr => ⟨plE_own (by omega) x X Y row hh.1 hg (fun r e => ⟨Nat.le_trans hsW3 (hr r e).1, (hr r e).2⟩), hh.2⟩)
    ⟨⟨_, hS0⟩, fun j hj => by simp at hj⟩
    (fun x => { tmps := #[.slice a zs.length c, .slice a' ys.length c', undef, undef, .pointer (some ⟨w.heap.size, 0, none⟩), .pointer (some ⟨w.heap.size + 1, 0, none⟩), .pointer (some ⟨w.heap.size + 1 + 1, 0, none⟩), .int .i64 0, .pointer (some ⟨s, 0, none⟩), .pointer (some ⟨s + 1, 0, none⟩), .int .i64 (x.1 : Int), undef, .slice a zs.length c, .slice a' ys.length c', .slice (some ⟨w.heap.size + 1 + 1 + 1, 0, none⟩) 2 2, .int .i64 0, .int .i64 0, .bool false, undef, .slice a zs.length c, .slice (some ⟨g, 0, none⟩) zs.length cap, .slice a zs.length c, .slice a' ys.length c', .func (.func 35) #[] #[.pointer (some ⟨s + 1 + 1, 0, none⟩), .pointer (some ⟨s + 1 + 1 + 1, 0, none⟩)], .int .i64 (x.1 : Int), undef, undef, undef, undef, undef, undef, undef, undef, undef, undef, undef, undef, undef, undef, undef, undef, undef], defers := [] }) ?assign ?body ?done ?stop
  case assign =>
    intro l x W K hK
    gi_wp2
    exact hK
  case body =>
    rintro l pre x W ⟨⟨v, hP⟩, hng⟩ hplen
    obtain ⟨i0, hi, hz0, hz1, hz2⟩ := info_parts info64
    have hsW : s ≤ W.heap.size := by have := hP.cbox.lt; omega
    have hx1 := x.2.1
    have hx2 := x.2.2
    have hxi : (x.1 : Int) < (zs.length : Int) := by omega
    have hne1 : s ≠ s + 1 := by omega
    have hne2 : g ≠ s + 1 := by omega
    have hne3 : g ≠ s := by omega
    have hc0 := hP.plan.cell
    obtain ⟨va, vc, rfl⟩ : ∃ va vc, v = .slice va pre.length vc := by
      rcases hP.row.2 with ⟨e, e2⟩ | ⟨gg, cc, cu, e, _⟩
      · exact ⟨none, 0, by rw [e, e2]⟩
      · exact ⟨_, _, e⟩
    gi_wp2_with (gi_at_builtin; refine wpListIn_append_own _ rfl _ _ 23 rfl s 2 i0 (.int .i64 0) 1 8 Tryd.underlying23 hi hz0 hz1 hz2 rfl (by decide) _ _ _ rfl (World.ownsRow.alloc hP.row _) ⟨W.heap.size, 0, none⟩ 1 1 [.int .i64 (x.1 : Int)] rfl rfl (cell_one_new _ _ _) (by simp [Value.oneCell']) (by unfold maxLen; omega) (by omega) (by simp; omega) ?_; intro v' w4 hown' hgrow _; obtain ⟨g', cap', rfl⟩ := ownsRow_succ hown'; obtain ⟨p1, -⟩ := hP.appended hs3 hg2 hgw hown' hgrow; have hc1 := p1.cell; have hf1 := p1.frozen; obtain ⟨m1, m2, m3⟩ := hP.mid x hg2 hgrow)
    obtain ⟨hN, hK, hBN⟩ := hP.next hs3 hg2 hgw hown' hgrow
    obtain ⟨W5, hW5⟩ : ∃ W5, ((w4.setCell ⟨s + 1, 0, none⟩ (.slice (some ⟨g', 0, none⟩) (pre.length + 1) cap')).setCell ⟨g, x.1, none⟩ (.int .i64 1)) = W5 := ⟨_, rfl⟩
    rw [hW5] at hN hK hBN ⊢
    have hlen := ones_length zs (pre ++ [x])
    have hKP := hP.kp hN hBN
    clear hW5 hown' hgrow hc0 hc1 hf1 m1 m2 m3 p1 hP
    refine ⟨fun _ => by omega, (CallsIn.inRound l (hW (runsIn_any _ (ones zs (pre ++ [x])) _ hN.cnt.nts (by omega)))).mono ?_⟩
    rintro e w5 ⟨u, rfl, hR5, hB5⟩
    rw [hlen] at hR5
    have hR5' : RRow W5.heap.size w5 u (rnO zs (pre ++ [x])) := hR5
    obtain ⟨ua, uc, rfl⟩ := hR5'.shape
    have hN5 := plS_below hN hB5
    have hK5 := hK.trans (keepsOthers_below hB5)
    have hKP5 := hKP.trans ⟨hB5.mono (by have := hN.bel.size; omega), hB5.block _ hN.bs.lt, hB5.block _ hN.bt.lt⟩
    have hs5 : s ≤ W5.heap.size := by have := hN.cbox.lt; omega
    have hrl := rnO_length zs (pre ++ [x])
    have c1 := hN5.plan.cell
    have hmul : IntKind.i64.wrap (20 * ((pre.length + 1 : Nat) : Int)) = ((20 * (pre.length + 1) : Nat) : Int) := (IntWalk.i64_in _ ⟨by omega, by omega⟩).trans (by omega)
    clear hR5 hN hK hKP hBN hB5 hlen
    by_cases hgd : good zs (pre ++ [x]) = true
    · have hle : (rnO zs (pre ++ [x])).length ≤ 20 * (pre.length + 1) := by simpa [good] using hgd
      have hle' : ((rnO zs (pre ++ [x])).length : Int) ≤ ((20 * (pre.length + 1) : Nat) : Int) := by omega
      have d0 := hN5.r0.cell
      have d1 := hN5.r1.cell
      have d2 := hN5.r2.cell
      have e0 := hN5.r0.frozen
      have e1 := hN5.r1.frozen
      have e2 := hN5.r2.frozen
      have HEnd : Hid _ := hN5.ends hs3 hR5' hs5
      have n1 : w.heap.size ≠ w.heap.size + 1 := by omega
      have n2 : w.heap.size ≠ w.heap.size + 1 + 1 := by omega
      have n3 : w.heap.size + 1 ≠ w.heap.size + 1 + 1 := by omega
      have HG : Hid (good zs (pre ++ [x]) = true) := hgd
      have HN : Hid (∀ j : Nat, j < pre.length → good zs (pre.take (j + 1)) = false) := hng
      clear hgd hng hle hR5' hN5
      gi_wp2
      exact ⟨((hK5.trans (KeepsOthers.setCell _ _ _)).trans (KeepsOthers.setCell _ _ _)).trans (KeepsOthers.setCell _ _ _), HEnd.out, rfl, pre, x, rfl, HG.out, HN.out⟩
    · have hgf : good zs (pre ++ [x]) = false := by simpa using hgd
      have hle : ¬ (rnO zs (pre ++ [x])).length ≤ 20 * (pre.length + 1) := by simpa [good] using hgd
      have hle' : ¬ ((rnO zs (pre ++ [x])).length : Int) ≤ ((20 * (pre.length + 1) : Nat) : Int) := by omega
      have HG : Hid _ := good_snoc hng hgf
      generalize (rnO zs (pre ++ [x])).length = rl at *
      clear hgd hgf hng hle hR5'
      gi_wp2
      exact ⟨hK5, hKP5, ⟨_, hN5⟩, HG.out⟩
  case done =>
    rintro D xs W hD rfl ⟨⟨v, hP⟩, hng⟩ hK
    obtain ⟨f1, f2, f3⟩ := pl_none hok (planK_none hng)
    have d0 := hP.r0.cell
    have d1 := hP.r1.cell
    have d2 := hP.r2.cell
    have e0 := hP.r0.frozen
    have e1 := hP.r1.frozen
    have e2 := hP.r2.frozen
    have n1 : w.heap.size ≠ w.heap.size + 1 := by omega
    have n2 : w.heap.size ≠ w.heap.size + 1 + 1 := by omega
    have n3 : w.heap.size + 1 ≠ w.heap.size + 1 + 1 := by omega
    gi_wp2
    have k1 := (KeepsOthers.setCell W ⟨w.heap.size, 0, none⟩ (.slice none 0 0)).same D _ hK rfl
    have k2 := (KeepsOthers.setCell (W.setCell ⟨w.heap.size, 0, none⟩ (.slice none 0 0)) ⟨w.heap.size + 1, 0, none⟩ (.slice none 0 0)).same D _ k1 rfl
    have k3 := (KeepsOthers.setCell ((W.setCell ⟨w.heap.size, 0, none⟩ (.slice none 0 0)).setCell ⟨w.heap.size + 1, 0, none⟩ (.slice none 0 0)) ⟨w.heap.size + 1 + 1, 0, none⟩ (.int .i64 7)).same D _ k2 rfl
    refine ⟨by simp, .inl ⟨_, _, rfl, run_takeDeferred k3, ?_⟩⟩
    have hDw : w.heap.size ≤ D := by omega
    have x0 : Boxed (((W.setCell ⟨w.heap.size, 0, none⟩ (.slice none 0 0)).setCell ⟨w.heap.size + 1, 0, none⟩ (.slice none 0 0)).setCell ⟨w.heap.size + 1 + 1, 0, none⟩ (.int .i64 7)) w.heap.size 23 (.slice none 0 0) := ((hP.r0.set _).other n1 _).other n2 _
    have x1 : Boxed (((W.setCell ⟨w.heap.size, 0, none⟩ (.slice none 0 0)).setCell ⟨w.heap.size + 1, 0, none⟩ (.slice none 0 0)).setCell ⟨w.heap.size + 1 + 1, 0, none⟩ (.int .i64 7)) (w.heap.size + 1) 26 (.slice none 0 0) := ((hP.r1.other (Ne.symm n1) _).set _).other n3 _
    have x2 : Boxed (((W.setCell ⟨w.heap.size, 0, none⟩ (.slice none 0 0)).setCell ⟨w.heap.size + 1, 0, none⟩ (.slice none 0 0)).setCell ⟨w.heap.size + 1 + 1, 0, none⟩ (.int .i64 7)) (w.heap.size + 1 + 1) 2 (.int .i64 7) := ((hP.r2.other (Ne.symm n2) _).other (Ne.symm n3) _).set _
    have y0 := cell_kept x0.cell (grownBy_putObj' _ D (.deferred none)) (fun r e => by cases e; exact ⟨_, k3, rfl⟩)
    have y1 := cell_kept x1.cell (grownBy_putObj' _ D (.deferred none)) (fun r e => by cases e; exact ⟨_, k3, rfl⟩)
    have y2 := cell_kept x2.cell (grownBy_putObj' _ D (.deferred none)) (fun r e => by cases e; exact ⟨_, k3, rfl⟩)
    refine ⟨.tuple #[.slice none 0 0, .slice none 0 0, .int .i64 7], ?_, .slice none 0 0, .slice none 0 0, by rw [f3], by rw [f1]; exact Row64.start _ _, by rw [f2]; exact RRow.start _ _, ?_⟩
    · simp [results, Tryd.f6, go_sem, y0, y1, y2]
    · exact (((hP.bel.setCell (p := ⟨w.heap.size, 0, none⟩) (Nat.le_refl _) _).setCell (p := ⟨w.heap.size + 1, 0, none⟩) (by show w.heap.size ≤ w.heap.size + 1; omega) _).setCell (p := ⟨w.heap.size + 1 + 1, 0, none⟩) (by show w.heap.size ≤ w.heap.size + 1 + 1; omega) _).trans (belowK_b (w := w) (Nat.le_refl _) _ D _ _ hDw k3 rfl rfl)
  case stop =>
    rintro D k pre W hD ⟨q, hq, hpre⟩ ⟨⟨p0, q0, h0, h1, h2, h3, h4, h5⟩, rfl, p, x, hpx, hgd, hng⟩ hK
    have hpl : pre.length = p.length + 1 := by rw [hpx]; simp
    have hfx : (frs zs ys zs.length zs.length).take (p.length + 1) = pre := by
      obtain ⟨t, ht⟩ := frs_prefix zs ys zs.length hq
      rw [← ht, ← hpre, List.take_append_of_le_length (by omega), List.take_of_length_le (by omega)]
    have hfl : p.length < (frs zs ys zs.length zs.length).length := by
      have h := congrArg List.length hfx
      rw [List.length_take, hpl] at h
      omega
    have hpk : planK zs ys = some p.length := planK_some hfl (by rw [hfx]; exact hgd) fun i hi => by
      have h : (frs zs ys zs.length zs.length).take (i + 1) = p.take (i + 1) := by
        have h2 := congrArg (List.take (i + 1)) hfx
        rw [List.take_take, Nat.min_eq_left (by omega)] at h2
        rw [h2, hpx, List.take_append_of_le_length (by omega)]
      rw [h]; exact hng i hi
    obtain ⟨f1, f2, f3⟩ := pl_some hok hpk
    rw [hfx] at f1 f2
    gi_wp2
    refine ⟨by simp, .inl ⟨_, _, rfl, run_takeDeferred hK, ?_⟩⟩
    have hDw : w.heap.size ≤ D := by omega
    have y0 := cell_kept h0.cell (grownBy_putObj' _ D (.deferred none)) (fun r e => by cases e; exact ⟨_, hK, rfl⟩)
    have y1 := cell_kept h1.cell (grownBy_putObj' _ D (.deferred none)) (fun r e => by cases e; exact ⟨_, hK, rfl⟩)
    have y2 := cell_kept h2.cell (grownBy_putObj' _ D (.deferred none)) (fun r e => by cases e; exact ⟨_, hK, rfl⟩)
    have hsw : w.heap.size ≤ s := by omega
    refine ⟨.tuple #[p0, q0, .int .i64 0], ?_, p0, q0, by rw [f3], ?_, ?_, ?_⟩
    · simp [results, Tryd.f6, go_sem, y0, y1, y2]
    · rw [f1]
      unfold Row64
      have h := row_base (ownsRow_putObj h3 (.deferred none) hK rfl) hsw
      rw [List.length_map, List.map_map]
      exact h
    · rw [f2]
      exact row_base (ownsRow_putObj h4 (.deferred none) hK rfl) hsw
    · exact h5.trans (belowK_b (w := w) (Nat.le_refl _) _ D _ _ hDw hK rfl rfl)

theorem implPlan_yes (a a' : Option Addr) (c c' : Nat) (zs ys : List Int) (w : World) (hv : Nts w (.slice a zs.length c) zs) (hv' : Nts w (.slice a' ys.length c') ys) (hok : chk [zs, ys] = 0) :
    Calls Tryd.prog 6 #[.slice a zs.length c, .slice a' ys.length c'] w fun e w' => ∃ u v, e = .returned (.tuple #[u, v, .int .i64 (plC zs ys)]) ∧ Row64 w.heap.size w' u (plP zs ys) ∧ RRow w.heap.size w' v (plR zs ys) ∧ Below w.heap.size w w' :=
  (callsIn_wide (n := 3)).1 (implPlan_in Fence.wide 3 (fun h => callsIn_wide.2 h) (fun _ => trivial) rfl (Nat.le_refl _) a a' c c' zs ys w hv hv' hok)

set_option maxRecDepth 100000 in
set_option maxHeartbeats 400000 in
theorem implPlan_no_in (F : Fence) (n : Nat) (hW : ∀ {n f args w R}, Calls Tryd.prog f args w R → CallsIn F n Tryd.prog f args w R) (hfn : ∀ f, F.fn f) (hro : F.round = none) (hn : 3 ≤ n) (a a' : Option Addr) (c c' : Nat) (zs ys : List Int) (w : World) (hv : Nts w (.slice a zs.length c) zs) (hv' : Nts w (.slice a' ys.length c') ys) (hz : zs.length ≤ 1048576) (hy : ys.length ≤ 1048576) (hok : chk [zs, ys] ≠ 0) :
    CallsIn F n Tryd.prog 6 #[.slice a zs.length c, .slice a' ys.length c'] w fun e w' => e = .returned (.tuple #[.slice none 0 0, .slice none 0 0, .int .i64 (chk [zs, ys])]) ∧ Below w.heap.size w w' := by
  have hne : (chk [zs, ys] != 0) = true := by simpa using hok
  have hn1 : 1 ≤ n := by omega
  have g1 := hfn 18
  refine callsIn_of_wp_marks Tryd.func6 rfl (hfn _) ?_ hro
  simp only [Tryd.ntmps6, List.size_toArray, List.length_cons, List.length_nil, Nat.reduceAdd, Nat.reduceSub, Array.replicate_succ, Array.replicate_zero, List.push_toArray, List.append_toArray, List.nil_append, List.cons_append]
  gi_wp2_with fail
  have b0 := ((Boxed.new w 23 (.slice none 0 0)).alloc (.cells #[.slice none 0 0] 26)).alloc (.cells #[.int .i64 0] 2)
  have b1 := (Boxed.new (w.alloc (.cells #[.slice none 0 0] 23)) 26 (.slice none 0 0)).alloc (.cells #[.int .i64 0] 2)
  have b2 := Boxed.new ((w.alloc (.cells #[.slice none 0 0] 23)).alloc (.cells #[.slice none 0 0] 26)) 2 (.int .i64 0)
  simp only [World.size_alloc] at b1 b2
  have hB0 : Below w.heap.size w (((w.alloc (.cells #[.slice none 0 0] 23)).alloc (.cells #[.slice none 0 0] 26)).alloc (.cells #[.int .i64 0] 2)) := (((Below.refl _ w).alloc (Nat.le_refl _) _).alloc (by simp) _).alloc (by simp; omega) _
  refine (hW (checkCounts_any _ [zs, ys] _ (LRd.two (hv.below hB0) (hv'.below hB0) _ _ (by simp)) (by simp) (by simp) (two_small hz hy))).mono ?_
  rintro e w1 ⟨rfl, hw1⟩
  have r0 := (b0.alloc (.cells #[.slice a zs.length c, .slice a' ys.length c'] 23))
  have r1 := (b1.alloc (.cells #[.slice a zs.length c, .slice a' ys.length c'] 23))
  have r2 := (b2.alloc (.cells #[.slice a zs.length c, .slice a' ys.length c'] 23))
  have hB1 := hB0.trans ((belowA _ (.cells #[.slice a zs.length c, .slice a' ys.length c'] 23)).mono hB0.size)
  rw [hw1] at r0 r1 r2 hB1
  have d0 := r0.cell
  have d1 := r1.cell
  have d2 := r2.cell
  have e0 := r0.frozen
  have e1 := r1.frozen
  have e2 := r2.frozen
  have n1 : w.heap.size ≠ w.heap.size + 1 := by omega
  have n2 : w.heap.size ≠ w.heap.size + 1 + 1 := by omega
  have n3 : w.heap.size + 1 ≠ w.heap.size + 1 + 1 := by omega
  clear hw1 b0 b1 b2 hB0
  gi_wp2
  have x0 : Boxed (((w1.setCell ⟨w.heap.size, 0, none⟩ (.slice none 0 0)).setCell ⟨w.heap.size + 1, 0, none⟩ (.slice none 0 0)).setCell ⟨w.heap.size + 1 + 1, 0, none⟩ (.int .i64 (chk [zs, ys]))) w.heap.size 23 (.slice none 0 0) := ((r0.set _).other n1 _).other n2 _
  have x1 : Boxed (((w1.setCell ⟨w.heap.size, 0, none⟩ (.slice none 0 0)).setCell ⟨w.heap.size + 1, 0, none⟩ (.slice none 0 0)).setCell ⟨w.heap.size + 1 + 1, 0, none⟩ (.int .i64 (chk [zs, ys]))) (w.heap.size + 1) 26 (.slice none 0 0) := ((r1.other (Ne.symm n1) _).set _).other n3 _
  have x2 : Boxed (((w1.setCell ⟨w.heap.size, 0, none⟩ (.slice none 0 0)).setCell ⟨w.heap.size + 1, 0, none⟩ (.slice none 0 0)).setCell ⟨w.heap.size + 1 + 1, 0, none⟩ (.int .i64 (chk [zs, ys]))) (w.heap.size + 1 + 1) 2 (.int .i64 (chk [zs, ys])) := ((r2.other (Ne.symm n2) _).other (Ne.symm n3) _).set _
  have y0 := x0.cell
  have y1 := x1.cell
  have y2 := x2.cell
  refine ⟨.tuple #[.slice none 0 0, .slice none 0 0, .int .i64 (chk [zs, ys])], ?_, rfl, ?_⟩
  · simp [results, Tryd.f6, go_sem, y0, y1, y2]
  · exact ((hB1.setCell (p := ⟨w.heap.size, 0, none⟩) (Nat.le_refl _) _).setCell (p := ⟨w.heap.size + 1, 0, none⟩) (by show w.heap.size ≤ w.heap.size + 1; omega) _).setCell (p := ⟨w.heap.size + 1 + 1, 0, none⟩) (by show w.heap.size ≤ w.heap.size + 1 + 1; omega) _

theorem implPlan_no (a a' : Option Addr) (c c' : Nat) (zs ys : List Int) (w : World) (hv : Nts w (.slice a zs.length c) zs) (hv' : Nts w (.slice a' ys.length c') ys) (hz : zs.length ≤ 1048576) (hy : ys.length ≤ 1048576) (hok : chk [zs, ys] ≠ 0) :
    Calls Tryd.prog 6 #[.slice a zs.length c, .slice a' ys.length c'] w fun e w' => e = .returned (.tuple #[.slice none 0 0, .slice none 0 0, .int .i64 (chk [zs, ys])]) ∧ Below w.heap.size w w' :=
  (callsIn_wide (n := 3)).1 (implPlan_no_in Fence.wide 3 (fun h => callsIn_wide.2 h) (fun _ => trivial) rfl (Nat.le_refl _) a a' c c' zs ys w hv hv' hz hy hok)
end Go.Proofs.YtamblkibmlfklabDoor
