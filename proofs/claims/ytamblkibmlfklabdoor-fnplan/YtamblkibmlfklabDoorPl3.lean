import Derived.Test.YtamblkibmlfklabDoorPl1
namespace Go.Proofs.YtamblkibmlfklabDoor
open Go.RowKit
set_option linter.unusedVariables false

theorem take_all (zs : List Int) (k : Nat) (h : k < zs.length) : zs.take (k + 1) = zs.take k ++ [zs.getD k 0] := by
  rw [List.take_succ_eq_append_getElem h]; simp [h]
theorem take_small {zs : List Int} (h : ∀ i, -9223372036854775808 ≤ zs.getD i 0 ∧ zs.getD i 0 ≤ 9223372036854775807) (k i : Nat) : -9223372036854775808 ≤ (zs.take k).getD i 0 ∧ (zs.take k).getD i 0 ≤ 9223372036854775807 := by
  have := h i
  simp only [List.getD_eq_getElem?_getD, List.getElem?_take] at this ⊢
  by_cases hi : i < k
  · rw [if_pos hi]; exact this
  · rw [if_neg hi]; simp
theorem Own64.take {lo hi : Nat} {w : World} {a : Option Addr} {n cap : Nat} {zs : List Int} (h : Own64 lo hi w (.slice a n cap) zs) (k : Nat) (hk : k ≤ n) : Own64 lo hi w (.slice a k cap) (zs.take k) := by
  obtain ⟨_, _, he, hs⟩ := h.shape
  simp only [Value.slice.injEq] at he
  obtain ⟨rfl, rfl, rfl⟩ := he
  have hl : (zs.take k).length = k := by simp; omega
  refine ⟨take_small h.small k, a, cap, by rw [hl], fun hp => ?_⟩
  rw [hl] at hp
  obtain ⟨b, off, ha, h1, h2, h3, hc⟩ := hs (by omega)
  refine ⟨b, off, ha, h1, h2, h3, fun i hi => ?_⟩
  rw [hl] at hi
  obtain ⟨c1, c2⟩ := hc i (by omega)
  refine ⟨?_, c2⟩
  rw [c1]
  simp only [List.getD_eq_getElem?_getD, List.getElem?_take, if_pos hi]

theorem frI_get (zs ys : List Int) (i : Nat) (h : i < (frs zs ys zs.length zs.length).length) : (frI zs ys zs.length zs.length).getD i 0 = (((frs zs ys zs.length zs.length)[i]'h).1 : Int) := by
  simp [frI, h]
theorem frs_take (zs ys : List Int) (i : Nat) (h : i < (frs zs ys zs.length zs.length).length) : (frs zs ys zs.length zs.length).take (i + 1) = (frs zs ys zs.length zs.length).take i ++ [(frs zs ys zs.length zs.length)[i]'h] := List.take_succ_eq_append_getElem h
theorem frI_len (zs ys : List Int) : (frI zs ys zs.length zs.length).length = (frs zs ys zs.length zs.length).length := by simp [frI]

/-- a store into an owned row -/
theorem Own64.stored2 {lo hi : Nat} {w : World} {a : Option Addr} {n cap : Nat} {zs : List Int} (h : Own64 lo hi w (.slice a n cap) zs) (j : Nat) (hj : j < n) (x : Int) (hx : -9223372036854775808 ≤ x ∧ x ≤ 9223372036854775807) :
    ∃ b off, a = some ⟨b, off, none⟩ ∧ lo ≤ b ∧ b < hi ∧ w.cell? ⟨b, off + j, none⟩ = some (.int .i64 (zs.getD j 0)) ∧ w.frozen? ⟨b, off + j, none⟩ = false ∧
      Own64 lo hi (w.setCell ⟨b, off + j, none⟩ (.int .i64 x)) (.slice a n cap) (zs.set j x) ∧ Upd lo hi w (w.setCell ⟨b, off + j, none⟩ (.int .i64 x)) := by
  have h' := h
  obtain ⟨_, _, he, hs⟩ := h'.shape
  simp only [Value.slice.injEq] at he
  obtain ⟨rfl, rfl, rfl⟩ := he
  obtain ⟨b, off, rfl, h1, h2, h3, hc⟩ := hs (by omega)
  obtain ⟨c1, c2⟩ := hc j hj
  obtain ⟨s1, s2⟩ := h.stored j hj x hx
  exact ⟨b, off, rfl, h1, h2, c1, c2, s1, s2⟩

set_option maxHeartbeats 4000000 in
theorem l3Plan_any (a a' : Option Addr) (c c' : Nat) (zs ys : List Int) (w : World) (hv : Nts w (.slice a zs.length c) zs) (hv' : Nts w (.slice a' ys.length c') ys) (hok : chk [zs, ys] = 0) :
    Calls Tryd.prog 17 #[.slice a zs.length c, .slice a' ys.length c'] w fun e w' => ∃ a0 c0 a1 c1 l0 h0 l1 h1, e = .returned (.tuple #[.slice a0 (plP zs ys).length c0, .slice a1 (plR zs ys).length c1, .int .i64 (plC zs ys)]) ∧ w.heap.size ≤ l0 ∧ h0 ≤ w'.heap.size ∧ w.heap.size ≤ l1 ∧ h1 ≤ w'.heap.size ∧ (h0 ≤ l1 ∨ h1 ≤ l0) ∧ Own64 l0 h0 w' (.slice a0 (plP zs ys).length c0) (plP zs ys) ∧ ROwn l1 h1 w' (.slice a1 (plR zs ys).length c1) (plR zs ys) ∧ Below w.heap.size w w' := by
  obtain ⟨hl, hc1, hc2⟩ := chk_two_ok hok
  have hz := (chk_ok hc1).1
  have HL : Hid (ys.length = zs.length) := hl.symm
  obtain ⟨_, _, he, hs⟩ := hv.shape
  simp only [Value.slice.injEq, true_and] at he
  obtain ⟨rfl, rfl⟩ := he
  obtain ⟨b, off, rfl, hcell⟩ := hs (by omega)
  have hbw : b < w.heap.size := World.block_lt_of_cell? _ _ (hcell 0 (by omega))
  have hsm := hv.small
  clear hc1 hc2 hl hs
  go_enter Tryd.func17, Tryd.ntmps17
  go_wp2_with fail
  refine (l3Free_any _ _ _ _ zs ys _ hv hv' HL.out (by omega) (by omega)).mono ?_
  rintro e w1 ⟨u, rfl, hR1, hb1⟩
  obtain ⟨fa, fc, rfl⟩ := hR1.shape
  have hO1 := hR1.own (fun i => frI_small zs ys _ _ i (by omega))
  have hs1 := hb1.size
  have hcap : (frI zs ys zs.length zs.length).length ≤ fc := by
    rcases hR1.2 with ⟨e, e2⟩ | ⟨gg, cc, cu, e, _, _, h3, _⟩
    · simp only [Value.slice.injEq] at e; omega
    · simp only [Value.slice.injEq] at e; omega
  have hfl := frI_length zs ys zs.length zs.length
  have hfe := frI_len zs ys
  rw [hfe] at hfl hcap
  rw [hfe] at hO1
  rw [hfe]
  clear hR1 hv hv'
  obtain ⟨m, HM⟩ : ∃ m, Hid ((frs zs ys zs.length zs.length).length = m) := ⟨_, rfl⟩
  rw [HM.out] at hfl hO1 hfe hcap
  rw [HM.out]
  go_wp2
  go_loopw [8] (fun i wr => ∃ k : Nat, 1 ≤ k ∧ k ≤ m + 1 ∧ i = .int .i64 k ∧ Own64 w.heap.size w1.heap.size wr (.slice fa m fc) (frI zs ys zs.length zs.length) ∧ Below w.heap.size w wr ∧ w1.heap.size ≤ wr.heap.size ∧ ∀ j, j + 1 < k → good zs ((frs zs ys zs.length zs.length).take (j + 1)) = false) (fun i _ => m + 1 - (intOf i).toNat)
  case atStart => exact ⟨1, Nat.le_refl _, by omega, rfl, hO1, hb1, Nat.le_refl _, fun j hj => by omega⟩
  case round =>
    obtain ⟨k, hk1, hk, rfl, hO, hb, hsw, hng⟩ := hrel
    obtain ⟨wo, rfl⟩ : ∃ wo, wo = wr := ⟨wr, rfl⟩
    clear hO1 hb1
    by_cases hlt : k ≤ m
    · have hlt' : (k : Int) ≤ (m : Int) := by omega
      have hsz := hb.size
      go_wp2
      go_loopw [9, 10] (fun u i w2 => ∃ j : Nat, j ≤ zs.length ∧ i = .int .i64 j ∧ Row64 wo.heap.size w2 u (zs.take j) ∧ Below wo.heap.size wo w2) (fun _ i _ => zs.length - (intOf i).toNat)
      case atStart => exact ⟨0, Nat.zero_le _, rfl, Row64.lit _ _ (Nat.le_refl _) _ rfl, belowA _ _⟩
      case round =>
        obtain ⟨j, hj, rfl, hown, hb2⟩ := hrel
        obtain ⟨w2, rfl⟩ : ∃ w2, w2 = wr := ⟨wr, rfl⟩
        obtain ⟨ua, uc, hua⟩ := hown.shape
        have htl : (zs.take j).length = j := by simp; omega
        rw [htl] at hua
        subst hua
        have hsz2 := hb2.size
        by_cases hlj : j < zs.length
        · have g1 : w2.cell? ⟨b, off + j, none⟩ = some (.int .i64 (zs.getD j 0)) := (hb2.cell (p := ⟨b, off + j, none⟩) (by show b < wo.heap.size; omega)).trans ((hb.cell (p := ⟨b, off + j, none⟩) hbw).trans (hcell j hlj))
          have hi : (j : Int) < (zs.length : Int) := by omega
          have HT : Hid (zs.take (j + 1) = zs.take j ++ [zs.getD j 0]) := take_all zs j hlj
          have hfl2 : (zs.take j).length < 8589934592 := by omega
          generalize zs.getD j 0 = z at *
          clear htl
          go_wp2_with (first | (at_builtin; refine wpList_append64 rfl _ _ rfl _ hown rfl rfl hfl2 hsz2 ?_; intro v' w3 hown1 hbel1 hsz3 hgr1) | go_in)
          rw [← HT.out] at hown1
          go_roundw
          case rel => exact ⟨j + 1, by omega, by go_num, hown1, hb2.trans hbel1⟩
          case measure => simp [intOf]; omega
        · have hje : j = zs.length := by omega
          have hO2 : Own64 wo.heap.size w2.heap.size w2 (.slice ua zs.length uc) zs := by
            have h := hown.own (take_small hsm j)
            rw [hje, List.take_length] at h
            exact h
          rw [hje]
          clear hown htl hlj hj hje
          go_wp2
          go_loopw [11] (fun i w3 => ∃ q : Nat, q ≤ k ∧ i = .int .i64 q ∧ Own64 wo.heap.size w2.heap.size w3 (.slice ua zs.length uc) (ones zs ((frs zs ys zs.length zs.length).take q)) ∧ Upd wo.heap.size w2.heap.size w2 w3) (fun i _ => k - (intOf i).toNat)
          case atStart => exact ⟨0, Nat.zero_le _, rfl, hO2, Upd.refl _ _ _⟩
          case round =>
            obtain ⟨q, hq, rfl, hO3, hu3⟩ := hrel
            obtain ⟨w3, rfl⟩ : ∃ w3, w3 = wr := ⟨wr, rfl⟩
            have hs3 := hu3.size
            by_cases hlq : q < k
            · have hqm : q < (frs zs ys zs.length zs.length).length := by rw [HM.out]; omega
              have hqm' : q < m := by omega
              obtain ⟨x, HX⟩ : ∃ x, Hid ((frs zs ys zs.length zs.length)[q]'hqm = x) := ⟨_, rfl⟩
              have hx1 := x.2.1
              have hx2 := x.2.2
              have hF3 : Own64 w.heap.size w1.heap.size w3 (.slice fa m fc) (frI zs ys zs.length zs.length) := (hO.below hb2).upd hu3 (.inl hsw)
              obtain ⟨_, _, he, hs⟩ := hF3.shape
              simp only [Value.slice.injEq] at he
              obtain ⟨rfl, hbad, rfl⟩ := he
              obtain ⟨fb, fo, rfl, hf1, hf2, hf3, hfc⟩ := hs (by omega)
              have g1 := (hfc q (by omega)).1
              rw [frI_get zs ys q hqm, HX.out] at g1
              have hst := hO3.stored2 x.1 hx2 1 (by omega)
              obtain ⟨lb, lo', rfl, hl1, hl2, c1, c2, hst1, hst2⟩ := hst
              have HT : Hid (ones zs ((frs zs ys zs.length zs.length).take (q + 1)) = (ones zs ((frs zs ys zs.length zs.length).take q)).set x.1 1) := by
                rw [frs_take zs ys q hqm, ones_snoc, HX.out]; rfl
              have HS1 : Hid _ := hst1
              have HS2 : Hid _ := hst2
              have hi1 : (q : Int) < (m : Int) := by omega
              have hi2 : (x.1 : Int) < (zs.length : Int) := by omega
              have hi3 : (q : Int) < (k : Int) := by omega
              generalize (ones zs ((frs zs ys zs.length zs.length).take q)).getD x.1 0 = cv at *
              generalize x.1 = xv at *
              clear hbad hs hfc hF3 hst1 hst2 hO3 hO2 HX hqm
              go_wp2
              go_roundw
              case rel => exact ⟨q + 1, by omega, by go_num, by rw [HT.out]; exact HS1.out, hu3.trans HS2.out⟩
              case measure => simp [intOf]; omega
            · have hqk : q = k := by omega
              subst hqk
              have hlen := ones_length zs ((frs zs ys zs.length zs.length).take q)
              have htl : ((frs zs ys zs.length zs.length).take q).length = q := by rw [List.length_take, HM.out]; omega
              have hF3 : Own64 w.heap.size w1.heap.size w3 (.slice fa m fc) (frI zs ys zs.length zs.length) := (hO.below hb2).upd hu3 (.inl hsw)
              have hb3 : Below w.heap.size w w3 := (hb.trans (hb2.mono hb.size)).trans (hu3.below hb.size (by omega))
              have hb2s := hb2.size
              clear hO hO2 hlq hq
              go_wp2_with fail
              refine (l3Runs_any _ _ _ hO3.nts (by omega)).mono ?_
              rintro e w4 ⟨u, rfl, hR4, hb4⟩
              rw [hlen] at hR4
              have hR4' : RRow w3.heap.size w4 u (rnO zs ((frs zs ys zs.length zs.length).take q)) := hR4
              obtain ⟨ra, rc, rfl⟩ := hR4'.shape
              have hF4 := hF3.below hb4
              have hb4' := hb3.trans (hb4.mono hb3.size)
              have hs4 := hb4.size
              have hrl := rnO_length zs ((frs zs ys zs.length zs.length).take q)
              have HGD : Hid (good zs ((frs zs ys zs.length zs.length).take q) = decide ((rnO zs ((frs zs ys zs.length zs.length).take q)).length ≤ 20 * q)) := by unfold good; rw [htl]; rfl
              clear hR4 hF3 hO3 hlen hb3 hb4 hb2 hu3
              by_cases hgd : (rnO zs ((frs zs ys zs.length zs.length).take q)).length ≤ 20 * q
              · have hk' : planK zs ys = some (q - 1) := planK_some (by rw [HM.out]; omega) (by rw [show q - 1 + 1 = q by omega, HGD.out]; exact decide_eq_true hgd) (fun i hi => hng i (by omega))
                obtain ⟨f1, f2, f3⟩ := pl_some hok hk'
                rw [show q - 1 + 1 = q by omega] at f1 f2
                have hF5 := hF4.take q (by omega)
                have hpe : (frI zs ys zs.length zs.length).take q = plP zs ys := by rw [f1, frI, List.map_take]
                rw [hpe] at hF5
                have hpl : (plP zs ys).length = q := by rw [← hpe, List.length_take, frI_len, HM.out]; omega
                have hO5 := hR4'.own
                have hgd' : ((rnO zs ((frs zs ys zs.length zs.length).take q)).length : Int) ≤ 20 * (q : Int) := by omega
                rw [← f2] at hO5
                have HF2 : Hid (plR zs ys = rnO zs ((frs zs ys zs.length zs.length).take q)) := f2
                have HF3 : Hid (plC zs ys = 0) := f3
                have HPL : Hid ((plP zs ys).length = q) := hpl
                have hqf : q ≤ fc := by omega
                have hqf' : (q : Int) ≤ (fc : Int) := by omega
                clear hgd hk' f1 f2 f3 hpe hpl hF4 hR4' hng htl
                go_wp2
                refine bodyPost_ret (v := .tuple #[.slice fa q fc, .slice ra (rnO zs ((frs zs ys zs.length zs.length).take q)).length rc, .int .i64 0]) (by simp [results, Tryd.results17, go_sem]) rfl ⟨fa, fc, ra, rc, w.heap.size, w1.heap.size, w3.heap.size, w4.heap.size, by rw [HF3.out, HF2.out, HPL.out], Nat.le_refl _, by omega, by omega, Nat.le_refl _, .inl (by omega), by rw [HPL.out]; exact hF5, by rw [HF2.out] at hO5 ⊢; exact hO5, hb4'⟩
              · have hgf : good zs ((frs zs ys zs.length zs.length).take q) = false := by rw [HGD.out]; exact decide_eq_false hgd
                have hgd' : ¬ ((rnO zs ((frs zs ys zs.length zs.length).take q)).length : Int) ≤ 20 * (q : Int) := by omega
                have HNG : Hid (∀ j, j + 1 < q + 1 → good zs ((frs zs ys zs.length zs.length).take (j + 1)) = false) := fun j hj => by
                  by_cases e : j + 1 < q
                  · exact hng j e
                  · rw [show j + 1 = q by omega]; exact hgf
                clear hgd hgf hR4' hng htl
                go_wp2
                go_roundw
                case rel => exact ⟨q + 1, by omega, by omega, by go_num, hF4, hb4', by omega, HNG.out⟩
                case measure => simp [intOf]; omega
    · have hkm : k = m + 1 := by omega
      have hpn : planK zs ys = none := planK_none fun j hj => hng j (by rw [HM.out] at hj; omega)
      obtain ⟨f1, f2, f3⟩ := pl_none hok hpn
      have HF : Hid (plP zs ys = [] ∧ plR zs ys = [] ∧ plC zs ys = 7) := ⟨f1, f2, f3⟩
      have hbs := hb.size
      clear hng hpn f1 f2 f3 hO
      go_wp2
      refine bodyPost_ret (v := .tuple #[.slice none 0 0, .slice none 0 0, .int .i64 7]) (by simp [results, Tryd.results17, go_sem]) rfl ?_
      rw [HF.out.1, HF.out.2.1, HF.out.2.2]
      exact ⟨none, 0, none, 0, w.heap.size, w.heap.size, w.heap.size, w.heap.size, rfl, Nat.le_refl _, hbs, Nat.le_refl _, hbs, .inl (Nat.le_refl _), Own64.empty _ _ _ _ _, ROwn.empty _ _ _ _ _, hb⟩
end Go.Proofs.YtamblkibmlfklabDoor
