import Derived.Test.YtfbjagjgofdheaaGreatDoorRi
namespace Go.Proofs.YtfbjagjgofdheaaGreatDoor
open Go.RowKit
set_option linter.unusedVariables false

set_option maxRecDepth 100000 in
set_option maxHeartbeats 32000000 in
theorem fnBlocks_walk (a1 a2 : Option Addr) (c1 c2 : Nat) (zs ms : List Int) {sa ss sk sn : Addr} (w : World) (h5 : Five w sa ss sk sn) (hv : Bts w (.slice a1 zs.length c1) zs) (hvm : Bts w (.slice a2 ms.length c2) ms) :
    Calls Tryz.prog 3 #[.slice a1 zs.length c1, .slice a2 ms.length c2] w fun e w' => e = .returned (.bool true) ∧ Below w.heap.size w w' := by
  by_cases hz : (1048576 : Int) < (zs.length : Int)
  · go_enter Tryz.func3, Tryz.ntmps3
    go_wp2
    go_ret
    exact ⟨rfl, Below.refl _ _⟩
  by_cases hm : (1048576 : Int) < (ms.length : Int)
  · go_enter Tryz.func3, Tryz.ntmps3
    go_wp2
    go_ret
    exact ⟨rfl, Below.refl _ _⟩
  have hzl : zs.length ≤ 1048576 := by omega
  have hml : ms.length ≤ 1048576 := by omega
  have H5 : Hid (∀ X, Below w.heap.size w X → Five X sa ss sk sn) := fun X hb => h5.below hb
  have HV : Hid (∀ X, Below w.heap.size w X → Bts X (.slice a1 zs.length c1) zs) := fun X hb => hv.below hb
  have HVM : Hid (∀ X, Below w.heap.size w X → Bts X (.slice a2 ms.length c2) ms) := fun X hb => hvm.below hb
  have hNl := ddN_len zs
  have hTl := ddT_len zs
  have hSl := ddS_len zs
  have HNB : Hid (Byt (ddN zs)) := ddN_byt zs
  have HTB : Hid (Byt (ddT zs)) := ddT_byt zs
  have HSB : Hid (Byt (ddS zs)) := ddS_byt zs
  have HDN : Hid _ := fun w hv => drawDecN_x a1 c1 zs w hv hzl
  have HDT : Hid _ := fun w hv => drawDecT_x a1 c1 zs w hv hzl
  have HDS : Hid _ := fun w hv => drawDecS_x a1 c1 zs w hv hzl
  generalize ddN zs = DN at *
  generalize ddT zs = DT at *
  generalize ddS zs = DS at *
  clear h5 hv hvm
  go_enter Tryz.func3, Tryz.ntmps3
  go_wp2_with fail
  refine Calls.mono (HDN.out _ (HV.out _ (Below.refl _ _))) ?_
  rintro e w1 ⟨⟨xa, xc, rfl, hB1, hc1⟩, hb1⟩
  go_wp2_with fail
  refine (specDecN' xa xc DN _ hB1 (by omega) hc1).mono ?_
  rintro e w2 ⟨⟨cN, kd, es, va, vc, rfl, hr2, hN, hva⟩, hb2⟩
  have hb2' := hb1.trans (hb2.mono hb1.size)
  have HNC : Hid (NCase DN cN kd es) := hN
  have HVA : Hid (cN ≠ 0 → va = none ∧ vc = 0) := hva
  clear hB1 hc1 hb1 hb2 hN hva
  have hb3 := belowA w2 (.cells #[.int .i64 kd, .slice va es.length vc] 25)
  have hX3 := heap_alloc_new w2 (.cells #[.int .i64 kd, .slice va es.length vc] 25)
  have hr3 := hr2.below hb3
  have hB3 := hb2'.trans (hb3.mono hb2'.size)
  obtain ⟨NB, HNBX⟩ : ∃ NB, Hid (w2.heap.size = NB) := ⟨_, rfl⟩
  rw [HNBX.out] at hX3
  obtain ⟨n0, n1, -, -⟩ := row2 hX3
  clear hr2 hb2' hb3
  go_upto_region 4 with fail
  rw [HNBX.out]
  generalize w2.alloc (.cells #[.int .i64 kd, .slice va es.length vc] 25) = W3 at *
  go_wp2_with fail
  refine (implEncN' HNC.out HVA.out (H5.out _ hB3) hr3).mono ?_
  rintro e w4 ⟨⟨na, nl, ncp, nc, rfl, hE4⟩, hb4⟩
  have hX4 := (hb4.block _ (Array.getElem?_eq_some_iff.1 hX3).1).trans hX3
  have hr4 := hr3.below hb4
  have hB4 := hB3.trans (hb4.mono hB3.size)
  have HE4 : Hid (ECase w4 cN (.slice na nl ncp) nc DN) := hE4
  have HR4 : Hid (NRead w4 (.slice va es.length vc) es) := hr4
  have HX4 : Hid _ := hX4
  have HB4 : Hid (Below w.heap.size w w4) := hB4
  clear hE4 hr3 hr4 hX3 hX4 hB3 hB4 hb4 n0 n1
  go_upto_if 52 with fail
  go_cut [] (fun wx => Below w4.heap.size w4 wx)
  case first => as_aux_lemma =>
    have HB0 := HB4
    rcases HNC.out with ⟨hx, rfl, rfl⟩ | ⟨rfl, hok, hD⟩
    · rcases HE4.out with ⟨-, rfl⟩ | ⟨h0, -, -⟩
      · have hx' : (cN == 0) = false := by simpa using hx
        clear hx
        go_wp2_with fail
        go_meet
        case rel => exact Below.refl _ _
      · exact absurd h0 hx
    · rcases HE4.out with ⟨h0, -⟩ | ⟨-, rfl, hK⟩
      · exact absurd rfl h0
      · have HK : Hid (Blk w4 (.slice na nl ncp) DN) := hK
        obtain ⟨g, hv, hA⟩ := hK.form
        have hdl := hA.1
        simp only [Value.slice.injEq] at hv
        obtain ⟨rfl, rfl, rfl⟩ := hv
        rw [hD] at hA
        clear hD
        have hel : es.length ≤ 1048576 := by have := hok.kind.2; omega
        have HA : Hid _ := hA
        clear hA hK HVA
        go_wp2_with fail
        refine (implDecN' hok HA.out).mono ?_
        rintro e w5 ⟨⟨ya, yc, rfl, hr5⟩, hb5⟩
        have hb6 := belowA w5 (.cells #[.int .i64 kd, .slice ya es.length yc] 25)
        have hX6 := heap_alloc_new w5 (.cells #[.int .i64 kd, .slice ya es.length yc] 25)
        have hr6 := hr5.below hb6
        have hB6 := hb5.trans (hb6.mono hb5.size)
        have hXN := (hB6.block _ (Array.getElem?_eq_some_iff.1 HX4.out).1).trans HX4.out
        obtain ⟨N1, HN1⟩ : ∃ N1, Hid (w5.heap.size = N1) := ⟨_, rfl⟩
        rw [HN1.out] at hX6
        clear hr5 hb6 hb5
        go_upto_region 7 with fail
        rw [HN1.out]
        generalize w5.alloc (.cells #[.int .i64 kd, .slice ya es.length yc] 25) = W6 at *
        have HR1 : Hid (NRead W6.drew (.slice ya es.length yc) es) := hr6.below (Below.refl _ _).drew
        have HR2 : Hid (NRead W6.drew (.slice va es.length vc) es) := (HR4.out.below hB6).below (Below.refl _ _).drew
        have HBD : Hid (Below w4.heap.size w4 W6.drew) := hB6.drew
        have HXA : Hid (W6.drew.heap[NB]? = _) := hXN
        have HXB : Hid (W6.drew.heap[N1]? = _) := hX6
        obtain ⟨q0, q1, -, -⟩ := row2 HXA.out
        obtain ⟨r0, r1, -, -⟩ := row2 HXB.out
        have tt := tl_self (txB DN)
        have v6 := conv_any ((HK.out.below HBD.out).bts.1) (by omega)
        clear hr6 hXN hX6 hB6 HA
        refine wp_region_held (S := fun w' => w'.cell? ⟨NB, 0, none⟩ = some (.int .i64 kd) ∧ w'.cell? ⟨NB, 1, none⟩ = some (.slice va es.length vc) ∧ w'.cell? ⟨N1, 0, none⟩ = some (.int .i64 kd) ∧ w'.cell? ⟨N1, 1, none⟩ = some (.slice ya es.length yc) ∧ (convert 22 9 (.slice (some ⟨g, 0, none⟩) 128 128)).run Tryz.prog w' = .ok (.string (txB DN)) w') (by kernel_rfl) ?_
        have hq0 : (fun w' : World => w'.cell? ⟨NB, 0, none⟩ = some (.int .i64 kd) ∧ w'.cell? ⟨NB, 1, none⟩ = some (.slice va es.length vc) ∧ w'.cell? ⟨N1, 0, none⟩ = some (.int .i64 kd) ∧ w'.cell? ⟨N1, 1, none⟩ = some (.slice ya es.length yc) ∧ (convert 22 9 (.slice (some ⟨g, 0, none⟩) 128 128)).run Tryz.prog w' = .ok (.string (txB DN)) w') W6.drew := ⟨q0, q1, r0, r1, v6⟩
        show wpAnyH _ _ _ _ _ _ _ _ W6.drew
        refine wpAnyH_tk (i := 0) 58 (.int .i64 0) rfl (by kernel_rfl) (by kernel_rfl) (by kernel_rfl) (fun _ _ _ h => h) (by rfl) rfl hq0 (fun w' hw => by obtain ⟨m0, m1, m2, m3, m4⟩ := hw; go_simp) ?_
        simp only [Act.put, List.setIfInBounds_toArray, List.set_cons_zero, List.set_cons_succ]
        refine wpAnyH_tk (i := 1) 59 (.bool false) rfl (by kernel_rfl) (by kernel_rfl) (by kernel_rfl) (fun _ _ _ h => h) (by rfl) rfl hq0 (fun w' hw => by obtain ⟨m0, m1, m2, m3, m4⟩ := hw; go_simp) ?_
        simp only [Act.put, List.setIfInBounds_toArray, List.set_cons_zero, List.set_cons_succ]
        refine wpAnyH_tk (i := 2) 60 (.bool false) rfl (by kernel_rfl) (by kernel_rfl) (by kernel_rfl) (fun _ _ _ h => h) (by rfl) rfl hq0 (fun w' hw => by obtain ⟨m0, m1, m2, m3, m4⟩ := hw; go_simp) ?_
        simp only [Act.put, List.setIfInBounds_toArray, List.set_cons_zero, List.set_cons_succ]
        refine wpAnyH_tk (i := 3) 61 (.slice (some ⟨g, 0, none⟩) 128 128) rfl (by kernel_rfl) (by kernel_rfl) (by kernel_rfl) (fun _ _ _ h => h) (by rfl) rfl hq0 (fun w' hw => by obtain ⟨m0, m1, m2, m3, m4⟩ := hw; go_simp) ?_
        simp only [Act.put, List.setIfInBounds_toArray, List.set_cons_zero, List.set_cons_succ]
        refine wpAnyH_tk (i := 4) 62 (.int .i64 128) rfl (by kernel_rfl) (by kernel_rfl) (by kernel_rfl) (fun _ _ _ h => h) (by rfl) rfl hq0 (fun w' hw => by obtain ⟨m0, m1, m2, m3, m4⟩ := hw; go_simp) ?_
        simp only [Act.put, List.setIfInBounds_toArray, List.set_cons_zero, List.set_cons_succ]
        refine wpAnyH_tk (i := 5) 63 (.bool false) rfl (by kernel_rfl) (by kernel_rfl) (by kernel_rfl) (fun _ _ _ h => h) (by rfl) rfl hq0 (fun w' hw => by obtain ⟨m0, m1, m2, m3, m4⟩ := hw; go_simp) ?_
        simp only [Act.put, List.setIfInBounds_toArray, List.set_cons_zero, List.set_cons_succ]
        refine wpAnyH_tk (i := 6) 64 (.bool false) rfl (by kernel_rfl) (by kernel_rfl) (by kernel_rfl) (fun _ _ _ h => h) (by rfl) rfl hq0 (fun w' hw => by obtain ⟨m0, m1, m2, m3, m4⟩ := hw; go_simp) ?_
        simp only [Act.put, List.setIfInBounds_toArray, List.set_cons_zero, List.set_cons_succ]
        refine wpAnyH_tk (i := 7) 65 (.bool false) rfl (by kernel_rfl) (by kernel_rfl) (by kernel_rfl) (fun _ _ _ h => h) (by rfl) rfl hq0 (fun w' hw => by obtain ⟨m0, m1, m2, m3, m4⟩ := hw; go_simp) ?_
        simp only [Act.put, List.setIfInBounds_toArray, List.set_cons_zero, List.set_cons_succ]
        refine wpAnyH_tk (i := 8) 66 (.int .i64 0) rfl (by kernel_rfl) (by kernel_rfl) (by kernel_rfl) (fun _ _ _ h => h) (by rfl) rfl hq0 (fun w' hw => by obtain ⟨m0, m1, m2, m3, m4⟩ := hw; go_simp) ?_
        simp only [Act.put, List.setIfInBounds_toArray, List.set_cons_zero, List.set_cons_succ]
        refine wpAnyH_tk (i := 9) 67 (.bool false) rfl (by kernel_rfl) (by kernel_rfl) (by kernel_rfl) (fun _ _ _ h => h) (by rfl) rfl hq0 (fun w' hw => by obtain ⟨m0, m1, m2, m3, m4⟩ := hw; go_simp) ?_
        simp only [Act.put, List.setIfInBounds_toArray, List.set_cons_zero, List.set_cons_succ]
        refine wpAnyH_tk (i := 10) 68 (.bool false) rfl (by kernel_rfl) (by kernel_rfl) (by kernel_rfl) (fun _ _ _ h => h) (by rfl) rfl hq0 (fun w' hw => by obtain ⟨m0, m1, m2, m3, m4⟩ := hw; go_simp) ?_
        simp only [Act.put, List.setIfInBounds_toArray, List.set_cons_zero, List.set_cons_succ]
        refine wpAnyH_tk (i := 11) 69 (.bool false) rfl (by kernel_rfl) (by kernel_rfl) (by kernel_rfl) (fun _ _ _ h => h) (by rfl) rfl hq0 (fun w' hw => by obtain ⟨m0, m1, m2, m3, m4⟩ := hw; go_simp) ?_
        simp only [Act.put, List.setIfInBounds_toArray, List.set_cons_zero, List.set_cons_succ]
        as_aux_lemma =>
         refine wpAnyH_tk (i := 12) 70 (.agg #[.int .i64 kd, .slice ya es.length yc]) rfl (by kernel_rfl) (by kernel_rfl) (by kernel_rfl) (fun _ _ _ h => h) (by rfl) rfl hq0 (fun w' hw => by obtain ⟨m0, m1, m2, m3, m4⟩ := hw; go_simp) ?_
         simp only [Act.put, List.setIfInBounds_toArray, List.set_cons_zero, List.set_cons_succ]
         refine wpAnyH_tk (i := 13) 71 (.agg #[.int .i64 kd, .slice va es.length vc]) rfl (by kernel_rfl) (by kernel_rfl) (by kernel_rfl) (fun _ _ _ h => h) (by rfl) rfl hq0 (fun w' hw => by obtain ⟨m0, m1, m2, m3, m4⟩ := hw; go_simp) ?_
         simp only [Act.put, List.setIfInBounds_toArray, List.set_cons_zero, List.set_cons_succ]
         refine wpAnyH_one (i := 14) (by kernel_rfl) rfl (by rfl) (fun K2 hK2 => ?_)
         go_simp
         refine (lEntries_any kd _ _ _ _ es _ HR1.out HR2.out hel).mono ?_
         rintro e w7 ⟨rfl, hb7⟩
         have hB7 := HBD.out.trans (hb7.mono HBD.out.size)
         have hq7 : (fun w' : World => w'.cell? ⟨NB, 0, none⟩ = some (.int .i64 kd) ∧ w'.cell? ⟨NB, 1, none⟩ = some (.slice va es.length vc) ∧ w'.cell? ⟨N1, 0, none⟩ = some (.int .i64 kd) ∧ w'.cell? ⟨N1, 1, none⟩ = some (.slice ya es.length yc) ∧ (convert 22 9 (.slice (some ⟨g, 0, none⟩) 128 128)).run Tryz.prog w' = .ok (.string (txB DN)) w') w7 := by
           have h1 := row2 ((hb7.block _ (Array.getElem?_eq_some_iff.1 HXA.out).1).trans HXA.out)
           have h2 := row2 ((hb7.block _ (Array.getElem?_eq_some_iff.1 HXB.out).1).trans HXB.out)
           exact ⟨h1.1, h1.2.1, h2.1, h2.2.1, conv_any ((HK.out.below hB7).bts.1) (by omega)⟩
         refine hK2 _ _ hq7 ?_
         clear hK2 K2
         try simp only [Act.put, List.setIfInBounds_toArray, List.set_cons_zero, List.set_cons_succ]
         refine wpAnyH_tk (i := 15) 73 (.bool false) rfl (by kernel_rfl) (by kernel_rfl) (by kernel_rfl) (fun _ _ _ h => h) (by rfl) rfl hq7 (fun w' hw => by obtain ⟨m0, m1, m2, m3, m4⟩ := hw; go_simp) ?_
         simp only [Act.put, List.setIfInBounds_toArray, List.set_cons_zero, List.set_cons_succ]
         refine wpAnyH_tk (i := 16) 74 (.bool false) rfl (by kernel_rfl) (by kernel_rfl) (by kernel_rfl) (fun _ _ _ h => h) (by rfl) rfl hq7 (fun w' hw => by obtain ⟨m0, m1, m2, m3, m4⟩ := hw; go_simp) ?_
         simp only [Act.put, List.setIfInBounds_toArray, List.set_cons_zero, List.set_cons_succ]
         refine wpAnyH_tk (i := 17) 75 (.bool false) rfl (by kernel_rfl) (by kernel_rfl) (by kernel_rfl) (fun _ _ _ h => h) (by rfl) rfl hq7 (fun w' hw => by obtain ⟨m0, m1, m2, m3, m4⟩ := hw; go_simp) ?_
         simp only [Act.put, List.setIfInBounds_toArray, List.set_cons_zero, List.set_cons_succ]
         refine wpAnyH_tk (i := 18) 76 (.slice (some ⟨g, 0, none⟩) 128 128) rfl (by kernel_rfl) (by kernel_rfl) (by kernel_rfl) (fun _ _ _ h => h) (by rfl) rfl hq7 (fun w' hw => by obtain ⟨m0, m1, m2, m3, m4⟩ := hw; go_simp) ?_
         simp only [Act.put, List.setIfInBounds_toArray, List.set_cons_zero, List.set_cons_succ]
         refine wpAnyH_tk (i := 19) 77 (.string (txB DN)) rfl (by kernel_rfl) (by kernel_rfl) (by kernel_rfl) (fun _ _ _ h => h) (by rfl) rfl hq7 (fun w' hw => by obtain ⟨m0, m1, m2, m3, m4⟩ := hw; go_simp) ?_
         simp only [Act.put, List.setIfInBounds_toArray, List.set_cons_zero, List.set_cons_succ]
         refine wpAnyH_tk (i := 20) 78 (.slice a1 zs.length c1) rfl (by kernel_rfl) (by kernel_rfl) (by kernel_rfl) (fun _ _ _ h => h) (by rfl) rfl hq7 (fun w' hw => by obtain ⟨m0, m1, m2, m3, m4⟩ := hw; go_simp) ?_
         simp only [Act.put, List.setIfInBounds_toArray, List.set_cons_zero, List.set_cons_succ]
         refine wpAnyH_one (i := 21) (by kernel_rfl) rfl (by rfl) (fun K2 hK2 => ?_)
         go_simp
         refine (HDN.out _ (HV.out _ (HB0.out.trans (hB7.mono HB0.out.size)))).mono ?_
         rintro e w8 ⟨⟨za, zc, rfl, hz8, hz9⟩, hb8⟩
         have hB8 := hB7.trans (hb8.mono hB7.size)
         have hq8 : (fun w' : World => w'.cell? ⟨NB, 0, none⟩ = some (.int .i64 kd) ∧ w'.cell? ⟨NB, 1, none⟩ = some (.slice va es.length vc) ∧ w'.cell? ⟨N1, 0, none⟩ = some (.int .i64 kd) ∧ w'.cell? ⟨N1, 1, none⟩ = some (.slice ya es.length yc) ∧ (convert 22 9 (.slice (some ⟨g, 0, none⟩) 128 128)).run Tryz.prog w' = .ok (.string (txB DN)) w') w8 := by
           have h1 := row2 (((hb7.trans (hb8.mono hb7.size)).block _ (Array.getElem?_eq_some_iff.1 HXA.out).1).trans HXA.out)
           have h2 := row2 (((hb7.trans (hb8.mono hb7.size)).block _ (Array.getElem?_eq_some_iff.1 HXB.out).1).trans HXB.out)
           exact ⟨h1.1, h1.2.1, h2.1, h2.2.1, conv_any ((HK.out.below hB8).bts.1) (by omega)⟩
         have v9 := conv_any hz8 (by omega)
         rw [hdl] at v9
         refine hK2 _ _ hq8 ?_
         clear hK2 K2
         try simp only [Act.put, List.setIfInBounds_toArray, List.set_cons_zero, List.set_cons_succ]
         as_aux_lemma =>
          refine wpAnyH_sub (S' := fun w' => w' = w8) (fun w' h => by rw [h]; exact hq8) _ _ _ _ ?_
          have hq9 : (fun w' : World => w' = w8) w8 := rfl
          refine wpAnyH_tk (i := 22) 80 (.string (txB DN)) rfl (by kernel_rfl) (by kernel_rfl) (by kernel_rfl) (fun _ _ _ h => h) (by rfl) rfl hq9 (fun w' hw => by subst hw; go_simp) ?_
          simp only [Act.put, List.setIfInBounds_toArray, List.set_cons_zero, List.set_cons_succ]
          refine wpAnyH_tk (i := 23) 81 (.bool false) rfl (by kernel_rfl) (by kernel_rfl) (by kernel_rfl) (fun _ _ _ h => h) (by rfl) rfl hq9 (fun w' hw => by subst hw; go_simp) ?_
          simp only [Act.put, List.setIfInBounds_toArray, List.set_cons_zero, List.set_cons_succ]
          refine wpAnyH_tk (i := 24) 82 (.bool false) rfl (by kernel_rfl) (by kernel_rfl) (by kernel_rfl) (fun _ _ _ h => h) (by rfl) rfl hq9 (fun w' hw => by subst hw; go_simp) ?_
          simp only [Act.put, List.setIfInBounds_toArray, List.set_cons_zero, List.set_cons_succ]
          refine wpAnyH_done (by kernel_rfl) ?_ _
          have HBE : Hid (Below w4.heap.size w4 w8) := hB8
          clear hB7 hB8 v9 hb7 hb8 hz8 hq0 hq7 hq8 hq9 v6
          go_wp2_with fail
          go_meet
          case rel => exact HBE.out
  case rest =>
    have HE5 : Hid (ECase wc cN (.slice na nl ncp) nc DN) := HE4.out.below hcut
    have HB5 : Hid (Below w.heap.size w wc) := HB4.out.trans (hcut.mono HB4.out.size)
    clear hcut HE4 HR4 HX4 HB4 HVA HNBX HNC
    go_wp2_with fail
    refine (HDT.out _ (HV.out _ HB5.out)).mono ?_
    rintro e w11 ⟨⟨ta, tcp, rfl, hB11, hc11⟩, hb11⟩
    go_wp2_with fail
    refine (specDecT' ta tcp DT _ hB11 (by omega) hc11).mono ?_
    rintro e w12 ⟨⟨cT, nx, rs, ra, rc, rfl, hr12, htb, hD12⟩, hb12⟩
    have hb12' := hb11.trans (hb12.mono hb11.size)
    have HTO : Hid (tbOK nx rs) := htb
    have HD12 : Hid (cT = 0 → DT = tabL nx rs) := hD12
    have hrl : rs.length ≤ 1048576 := by have := htb.2.1; omega
    clear hB11 hc11 hb11 hb12 htb hD12
    have hb13 := belowA w12 (.cells #[.int .i64 nx, .slice ra rs.length rc] 34)
    have hX13 := heap_alloc_new w12 (.cells #[.int .i64 nx, .slice ra rs.length rc] 34)
    have hr13 := hr12.below hb13
    have hB13 := hb12'.trans (hb13.mono hb12'.size)
    obtain ⟨TB, HTBX⟩ : ∃ TB, Hid (w12.heap.size = TB) := ⟨_, rfl⟩
    rw [HTBX.out] at hX13
    obtain ⟨n0, n1, -, -⟩ := row2 hX13
    clear hr12 hb12' hb13
    go_upto_region 12 with fail
    rw [HTBX.out]
    generalize w12.alloc (.cells #[.int .i64 nx, .slice ra rs.length rc] 34) = W13 at *
    go_wp2_with fail
    refine (implEncT' HTO.out hr13).mono ?_
    rintro e w14 ⟨⟨tg, rfl, hK14⟩, hb14⟩
    have hX14 := (hb14.block _ (Array.getElem?_eq_some_iff.1 hX13).1).trans hX13
    have hr14 := hr13.below hb14
    have hB14 := hB13.trans (hb14.mono hB13.size)
    have HK14 : Hid (Blk w14 (.slice (some ⟨tg, 0, none⟩) 128 128) (tabL nx rs)) := hK14
    clear hr13 hX13 hB13 hb14 hK14 n0 n1
    go_wp2_with fail
    refine (implDecT_ok HTO.out tg 0 128 _ HK14.out.bts.1).mono ?_
    rintro e w15 ⟨⟨qa, qc, rfl, hr15⟩, hb15⟩
    have hb16 := belowA w15 (.cells #[.int .i64 nx, .slice qa rs.length qc] 34)
    have hX16 := heap_alloc_new w15 (.cells #[.int .i64 nx, .slice qa rs.length qc] 34)
    have hr16 := hr15.below hb16
    have hB16 := hb15.trans (hb16.mono hb15.size)
    have hX15 := (hB16.block _ (Array.getElem?_eq_some_iff.1 hX14).1).trans hX14
    have hs16 := hr14.below hB16
    obtain ⟨T2, HT2⟩ : ∃ T2, Hid (w15.heap.size = T2) := ⟨_, rfl⟩
    rw [HT2.out] at hX16
    have hB17 := hB14.trans (hB16.mono hB14.size)
    clear hr15 hb15 hb16 hr14 hX14 hB14
    obtain ⟨TL, HTL⟩ : ∃ TL, Hid (tabL nx rs = TL) := ⟨_, rfl⟩
    have hK15 := HK14.out.below hB16
    rw [HTL.out] at hK15 HD12
    clear HTL HK14 hB16 HTO
    go_upto_region 14 with fail
    rw [HT2.out]
    generalize w15.alloc (.cells #[.int .i64 nx, .slice qa rs.length qc] 34) = W15 at *
    have HB15 : Hid (Below w.heap.size w W15) := HB5.out.trans (hB17.mono HB5.out.size)
    have HE15 : Hid (ECase W15 cN (.slice na nl ncp) nc DN) := HE5.out.below hB17
    have HK15 : Hid (Blk W15 (.slice (some ⟨tg, 0, none⟩) 128 128) TL) := hK15
    clear hB17 hK15 HTBX HT2 HB5 HE5
    go_cut [138] (fun s138 wx => s138 = .bool false ∧ Below W15.heap.size W15 wx)
    case first => as_aux_lemma =>
      have HD14 : Hid (cT = 0 → DT = TL) := HD12
      have HR1 : Hid (RRead W15.drew (.slice qa rs.length qc) rs) := hr16.below (Below.refl _ _).drew
      have HR2 : Hid (RRead W15.drew (.slice ra rs.length rc) rs) := hs16.below (Below.refl _ _).drew
      have HBD : Hid (Below W15.heap.size W15 W15.drew) := (Below.refl _ _).drew
      have HK : Hid (Blk W15.drew (.slice (some ⟨tg, 0, none⟩) 128 128) TL) := HK15.out.below HBD.out
      have HXA : Hid (W15.drew.heap[TB]? = _) := hX15
      have HXB : Hid (W15.drew.heap[T2]? = _) := hX16
      obtain ⟨q0, q1, -, -⟩ := row2 HXA.out
      obtain ⟨r0, r1, -, -⟩ := row2 HXB.out
      have tt := tl_self (txB TL)
      have hkk : (nx != nx) = false := by simp
      have v6 := conv_any (HK.out.bts.1) (by omega)
      clear hr16 hs16 hX15 hX16
      refine wp_region_held (S := fun w' => w'.cell? ⟨TB, 0, none⟩ = some (.int .i64 nx) ∧ w'.cell? ⟨TB, 1, none⟩ = some (.slice ra rs.length rc) ∧ w'.cell? ⟨T2, 0, none⟩ = some (.int .i64 nx) ∧ w'.cell? ⟨T2, 1, none⟩ = some (.slice qa rs.length qc) ∧ (convert 22 9 (.slice (some ⟨tg, 0, none⟩) 128 128)).run Tryz.prog w' = .ok (.string (txB TL)) w') (by kernel_rfl) ?_
      have hq0 : (fun w' : World => w'.cell? ⟨TB, 0, none⟩ = some (.int .i64 nx) ∧ w'.cell? ⟨TB, 1, none⟩ = some (.slice ra rs.length rc) ∧ w'.cell? ⟨T2, 0, none⟩ = some (.int .i64 nx) ∧ w'.cell? ⟨T2, 1, none⟩ = some (.slice qa rs.length qc) ∧ (convert 22 9 (.slice (some ⟨tg, 0, none⟩) 128 128)).run Tryz.prog w' = .ok (.string (txB TL)) w') W15.drew := ⟨q0, q1, r0, r1, v6⟩
      show wpAnyH _ _ _ _ _ _ _ _ W15.drew
      refine wpAnyH_tk (i := 0) 101 (.int .i64 0) rfl (by kernel_rfl) (by kernel_rfl) (by kernel_rfl) (fun _ _ _ h => h) (by rfl) rfl hq0 (fun w' hw => by obtain ⟨m0, m1, m2, m3, m4⟩ := hw; go_simp) ?_
      simp only [Act.put, List.setIfInBounds_toArray, List.set_cons_zero, List.set_cons_succ]
      refine wpAnyH_tk (i := 1) 102 (.bool false) rfl (by kernel_rfl) (by kernel_rfl) (by kernel_rfl) (fun _ _ _ h => h) (by rfl) rfl hq0 (fun w' hw => by obtain ⟨m0, m1, m2, m3, m4⟩ := hw; go_simp) ?_
      simp only [Act.put, List.setIfInBounds_toArray, List.set_cons_zero, List.set_cons_succ]
      refine wpAnyH_tk (i := 2) 103 (.bool false) rfl (by kernel_rfl) (by kernel_rfl) (by kernel_rfl) (fun _ _ _ h => h) (by rfl) rfl hq0 (fun w' hw => by obtain ⟨m0, m1, m2, m3, m4⟩ := hw; go_simp) ?_
      simp only [Act.put, List.setIfInBounds_toArray, List.set_cons_zero, List.set_cons_succ]
      refine wpAnyH_tk (i := 3) 104 (.slice (some ⟨tg, 0, none⟩) 128 128) rfl (by kernel_rfl) (by kernel_rfl) (by kernel_rfl) (fun _ _ _ h => h) (by rfl) rfl hq0 (fun w' hw => by obtain ⟨m0, m1, m2, m3, m4⟩ := hw; go_simp) ?_
      simp only [Act.put, List.setIfInBounds_toArray, List.set_cons_zero, List.set_cons_succ]
      refine wpAnyH_tk (i := 4) 105 (.int .i64 128) rfl (by kernel_rfl) (by kernel_rfl) (by kernel_rfl) (fun _ _ _ h => h) (by rfl) rfl hq0 (fun w' hw => by obtain ⟨m0, m1, m2, m3, m4⟩ := hw; go_simp) ?_
      simp only [Act.put, List.setIfInBounds_toArray, List.set_cons_zero, List.set_cons_succ]
      refine wpAnyH_tk (i := 5) 106 (.bool false) rfl (by kernel_rfl) (by kernel_rfl) (by kernel_rfl) (fun _ _ _ h => h) (by rfl) rfl hq0 (fun w' hw => by obtain ⟨m0, m1, m2, m3, m4⟩ := hw; go_simp) ?_
      simp only [Act.put, List.setIfInBounds_toArray, List.set_cons_zero, List.set_cons_succ]
      refine wpAnyH_tk (i := 6) 107 (.bool false) rfl (by kernel_rfl) (by kernel_rfl) (by kernel_rfl) (fun _ _ _ h => h) (by rfl) rfl hq0 (fun w' hw => by obtain ⟨m0, m1, m2, m3, m4⟩ := hw; go_simp) ?_
      simp only [Act.put, List.setIfInBounds_toArray, List.set_cons_zero, List.set_cons_succ]
      refine wpAnyH_tk (i := 7) 108 (.bool false) rfl (by kernel_rfl) (by kernel_rfl) (by kernel_rfl) (fun _ _ _ h => h) (by rfl) rfl hq0 (fun w' hw => by obtain ⟨m0, m1, m2, m3, m4⟩ := hw; go_simp) ?_
      simp only [Act.put, List.setIfInBounds_toArray, List.set_cons_zero, List.set_cons_succ]
      refine wpAnyH_tk (i := 8) 109 (.int .i64 0) rfl (by kernel_rfl) (by kernel_rfl) (by kernel_rfl) (fun _ _ _ h => h) (by rfl) rfl hq0 (fun w' hw => by obtain ⟨m0, m1, m2, m3, m4⟩ := hw; go_simp) ?_
      simp only [Act.put, List.setIfInBounds_toArray, List.set_cons_zero, List.set_cons_succ]
      refine wpAnyH_tk (i := 9) 110 (.bool false) rfl (by kernel_rfl) (by kernel_rfl) (by kernel_rfl) (fun _ _ _ h => h) (by rfl) rfl hq0 (fun w' hw => by obtain ⟨m0, m1, m2, m3, m4⟩ := hw; go_simp) ?_
      simp only [Act.put, List.setIfInBounds_toArray, List.set_cons_zero, List.set_cons_succ]
      refine wpAnyH_tk (i := 10) 111 (.bool false) rfl (by kernel_rfl) (by kernel_rfl) (by kernel_rfl) (fun _ _ _ h => h) (by rfl) rfl hq0 (fun w' hw => by obtain ⟨m0, m1, m2, m3, m4⟩ := hw; go_simp) ?_
      simp only [Act.put, List.setIfInBounds_toArray, List.set_cons_zero, List.set_cons_succ]
      refine wpAnyH_tk (i := 11) 112 (.bool false) rfl (by kernel_rfl) (by kernel_rfl) (by kernel_rfl) (fun _ _ _ h => h) (by rfl) rfl hq0 (fun w' hw => by obtain ⟨m0, m1, m2, m3, m4⟩ := hw; go_simp) ?_
      simp only [Act.put, List.setIfInBounds_toArray, List.set_cons_zero, List.set_cons_succ]
      as_aux_lemma =>
       refine wpAnyH_tk (i := 12) 113 (.pointer (some ⟨T2, 0, none⟩)) rfl (by kernel_rfl) (by kernel_rfl) (by kernel_rfl) (fun _ _ _ h => h) (by rfl) rfl hq0 (fun w' hw => by obtain ⟨m0, m1, m2, m3, m4⟩ := hw; go_simp) ?_
       simp only [Act.put, List.setIfInBounds_toArray, List.set_cons_zero, List.set_cons_succ]
       refine wpAnyH_tk (i := 13) 114 (.int .i64 nx) rfl (by kernel_rfl) (by kernel_rfl) (by kernel_rfl) (fun _ _ _ h => h) (by rfl) rfl hq0 (fun w' hw => by obtain ⟨m0, m1, m2, m3, m4⟩ := hw; go_simp) ?_
       simp only [Act.put, List.setIfInBounds_toArray, List.set_cons_zero, List.set_cons_succ]
       refine wpAnyH_tk (i := 14) 115 (.pointer (some ⟨TB, 0, none⟩)) rfl (by kernel_rfl) (by kernel_rfl) (by kernel_rfl) (fun _ _ _ h => h) (by rfl) rfl hq0 (fun w' hw => by obtain ⟨m0, m1, m2, m3, m4⟩ := hw; go_simp) ?_
       simp only [Act.put, List.setIfInBounds_toArray, List.set_cons_zero, List.set_cons_succ]
       refine wpAnyH_tk (i := 15) 116 (.int .i64 nx) rfl (by kernel_rfl) (by kernel_rfl) (by kernel_rfl) (fun _ _ _ h => h) (by rfl) rfl hq0 (fun w' hw => by obtain ⟨m0, m1, m2, m3, m4⟩ := hw; go_simp) ?_
       simp only [Act.put, List.setIfInBounds_toArray, List.set_cons_zero, List.set_cons_succ]
       refine wpAnyH_tk (i := 16) 117 (.bool false) rfl (by kernel_rfl) (by kernel_rfl) (by kernel_rfl) (fun _ _ _ h => h) (by rfl) rfl hq0 (fun w' hw => by obtain ⟨m0, m1, m2, m3, m4⟩ := hw; go_simp) ?_
       simp only [Act.put, List.setIfInBounds_toArray, List.set_cons_zero, List.set_cons_succ]
       refine wpAnyH_tk (i := 17) 118 (.bool false) rfl (by kernel_rfl) (by kernel_rfl) (by kernel_rfl) (fun _ _ _ h => h) (by rfl) rfl hq0 (fun w' hw => by obtain ⟨m0, m1, m2, m3, m4⟩ := hw; go_simp) ?_
       simp only [Act.put, List.setIfInBounds_toArray, List.set_cons_zero, List.set_cons_succ]
       refine wpAnyH_tk (i := 18) 119 (.bool false) rfl (by kernel_rfl) (by kernel_rfl) (by kernel_rfl) (fun _ _ _ h => h) (by rfl) rfl hq0 (fun w' hw => by obtain ⟨m0, m1, m2, m3, m4⟩ := hw; go_simp) ?_
       simp only [Act.put, List.setIfInBounds_toArray, List.set_cons_zero, List.set_cons_succ]
       refine wpAnyH_tk (i := 19) 120 (.pointer (some ⟨T2, 1, none⟩)) rfl (by kernel_rfl) (by kernel_rfl) (by kernel_rfl) (fun _ _ _ h => h) (by rfl) rfl hq0 (fun w' hw => by obtain ⟨m0, m1, m2, m3, m4⟩ := hw; go_simp) ?_
       simp only [Act.put, List.setIfInBounds_toArray, List.set_cons_zero, List.set_cons_succ]
       refine wpAnyH_tk (i := 20) 121 (.slice qa rs.length qc) rfl (by kernel_rfl) (by kernel_rfl) (by kernel_rfl) (fun _ _ _ h => h) (by rfl) rfl hq0 (fun w' hw => by obtain ⟨m0, m1, m2, m3, m4⟩ := hw; go_simp) ?_
       simp only [Act.put, List.setIfInBounds_toArray, List.set_cons_zero, List.set_cons_succ]
       refine wpAnyH_tk (i := 21) 122 (.pointer (some ⟨TB, 1, none⟩)) rfl (by kernel_rfl) (by kernel_rfl) (by kernel_rfl) (fun _ _ _ h => h) (by rfl) rfl hq0 (fun w' hw => by obtain ⟨m0, m1, m2, m3, m4⟩ := hw; go_simp) ?_
       simp only [Act.put, List.setIfInBounds_toArray, List.set_cons_zero, List.set_cons_succ]
       refine wpAnyH_tk (i := 22) 123 (.slice ra rs.length rc) rfl (by kernel_rfl) (by kernel_rfl) (by kernel_rfl) (fun _ _ _ h => h) (by rfl) rfl hq0 (fun w' hw => by obtain ⟨m0, m1, m2, m3, m4⟩ := hw; go_simp) ?_
       simp only [Act.put, List.setIfInBounds_toArray, List.set_cons_zero, List.set_cons_succ]
       as_aux_lemma =>
        refine wpAnyH_one (i := 23) (by kernel_rfl) rfl (by rfl) (fun K2 hK2 => ?_)
        go_simp
        refine (lRuns_any _ _ _ _ rs _ HR1.out HR2.out hrl).mono ?_
        rintro e w7 ⟨rfl, hb7⟩
        have hB7 := HBD.out.trans (hb7.mono HBD.out.size)
        have hq7 : (fun w' : World => w'.cell? ⟨TB, 0, none⟩ = some (.int .i64 nx) ∧ w'.cell? ⟨TB, 1, none⟩ = some (.slice ra rs.length rc) ∧ w'.cell? ⟨T2, 0, none⟩ = some (.int .i64 nx) ∧ w'.cell? ⟨T2, 1, none⟩ = some (.slice qa rs.length qc) ∧ (convert 22 9 (.slice (some ⟨tg, 0, none⟩) 128 128)).run Tryz.prog w' = .ok (.string (txB TL)) w') w7 := by
          have h1 := row2 ((hb7.block _ (Array.getElem?_eq_some_iff.1 HXA.out).1).trans HXA.out)
          have h2 := row2 ((hb7.block _ (Array.getElem?_eq_some_iff.1 HXB.out).1).trans HXB.out)
          exact ⟨h1.1, h1.2.1, h2.1, h2.2.1, conv_any ((HK.out.below hb7).bts.1) (by omega)⟩
        refine hK2 _ _ hq7 ?_
        clear hK2 K2
        try simp only [Act.put, List.setIfInBounds_toArray, List.set_cons_zero, List.set_cons_succ]
        refine wpAnyH_tk (i := 24) 125 (.bool false) rfl (by kernel_rfl) (by kernel_rfl) (by kernel_rfl) (fun _ _ _ h => h) (by rfl) rfl hq7 (fun w' hw => by obtain ⟨m0, m1, m2, m3, m4⟩ := hw; go_simp) ?_
        simp only [Act.put, List.setIfInBounds_toArray, List.set_cons_zero, List.set_cons_succ]
        refine wpAnyH_tk (i := 25) 126 (.bool false) rfl (by kernel_rfl) (by kernel_rfl) (by kernel_rfl) (fun _ _ _ h => h) (by rfl) rfl hq7 (fun w' hw => by obtain ⟨m0, m1, m2, m3, m4⟩ := hw; go_simp) ?_
        simp only [Act.put, List.setIfInBounds_toArray, List.set_cons_zero, List.set_cons_succ]
        refine wpAnyH_tk (i := 26) 127 (.bool false) rfl (by kernel_rfl) (by kernel_rfl) (by kernel_rfl) (fun _ _ _ h => h) (by rfl) rfl hq7 (fun w' hw => by obtain ⟨m0, m1, m2, m3, m4⟩ := hw; go_simp) ?_
        simp only [Act.put, List.setIfInBounds_toArray, List.set_cons_zero, List.set_cons_succ]
        refine wpAnyH_tk (i := 27) 128 (.int .i64 cT) rfl (by kernel_rfl) (by kernel_rfl) (by kernel_rfl) (fun _ _ _ h => h) (by rfl) rfl hq7 (fun w' hw => by obtain ⟨m0, m1, m2, m3, m4⟩ := hw; go_simp) ?_
        simp only [Act.put, List.setIfInBounds_toArray, List.set_cons_zero, List.set_cons_succ]
        as_aux_lemma =>
         by_cases hcT : cT = 0
         · have hcb : (cT == 0) = true := by simpa using hcT
           have e9 := HD14.out hcT
           clear hcT
           refine wpAnyH_tk (i := 28) 129 (.bool true) rfl (by kernel_rfl) (by kernel_rfl) (by kernel_rfl) (fun _ _ _ h => h) (by rfl) rfl hq7 (fun w' hw => by obtain ⟨m0, m1, m2, m3, m4⟩ := hw; go_simp) ?_
           simp only [Act.put, List.setIfInBounds_toArray, List.set_cons_zero, List.set_cons_succ]
           refine wpAnyH_tk (i := 29) 130 (.bool true) rfl (by kernel_rfl) (by kernel_rfl) (by kernel_rfl) (fun _ _ _ h => h) (by rfl) rfl hq7 (fun w' hw => by obtain ⟨m0, m1, m2, m3, m4⟩ := hw; go_simp) ?_
           simp only [Act.put, List.setIfInBounds_toArray, List.set_cons_zero, List.set_cons_succ]
           refine wpAnyH_tk (i := 30) 131 (.slice (some ⟨tg, 0, none⟩) 128 128) rfl (by kernel_rfl) (by kernel_rfl) (by kernel_rfl) (fun _ _ _ h => h) (by rfl) rfl hq7 (fun w' hw => by obtain ⟨m0, m1, m2, m3, m4⟩ := hw; go_simp) ?_
           simp only [Act.put, List.setIfInBounds_toArray, List.set_cons_zero, List.set_cons_succ]
           refine wpAnyH_tk (i := 31) 132 (.string (txB TL)) rfl (by kernel_rfl) (by kernel_rfl) (by kernel_rfl) (fun _ _ _ h => h) (by rfl) rfl hq7 (fun w' hw => by obtain ⟨m0, m1, m2, m3, m4⟩ := hw; go_simp) ?_
           simp only [Act.put, List.setIfInBounds_toArray, List.set_cons_zero, List.set_cons_succ]
           refine wpAnyH_tk (i := 32) 133 (.slice a1 zs.length c1) rfl (by kernel_rfl) (by kernel_rfl) (by kernel_rfl) (fun _ _ _ h => h) (by rfl) rfl hq7 (fun w' hw => by obtain ⟨m0, m1, m2, m3, m4⟩ := hw; go_simp) ?_
           simp only [Act.put, List.setIfInBounds_toArray, List.set_cons_zero, List.set_cons_succ]
           refine wpAnyH_one (i := 33) (by kernel_rfl) rfl (by rfl) (fun K2 hK2 => ?_)
           go_simp
           refine (HDT.out _ (HV.out _ (HB15.out.trans (hB7.mono HB15.out.size)))).mono ?_
           rintro e w8 ⟨⟨za, zc, rfl, hz8, hz9⟩, hb8⟩
           have hB8 := hB7.trans (hb8.mono hB7.size)
           have hq8 : (fun w' : World => w'.cell? ⟨TB, 0, none⟩ = some (.int .i64 nx) ∧ w'.cell? ⟨TB, 1, none⟩ = some (.slice ra rs.length rc) ∧ w'.cell? ⟨T2, 0, none⟩ = some (.int .i64 nx) ∧ w'.cell? ⟨T2, 1, none⟩ = some (.slice qa rs.length qc) ∧ (convert 22 9 (.slice (some ⟨tg, 0, none⟩) 128 128)).run Tryz.prog w' = .ok (.string (txB TL)) w') w8 := by
             have hb78 := hb7.trans (hb8.mono hb7.size)
             have h1 := row2 ((hb78.block _ (Array.getElem?_eq_some_iff.1 HXA.out).1).trans HXA.out)
             have h2 := row2 ((hb78.block _ (Array.getElem?_eq_some_iff.1 HXB.out).1).trans HXB.out)
             exact ⟨h1.1, h1.2.1, h2.1, h2.2.1, conv_any ((HK.out.below hb78).bts.1) (by omega)⟩
           have v9 : (convert 22 9 (.slice za DT.length zc)).run Tryz.prog w8 = .ok (.string (txB TL)) w8 := by
             rw [← e9]
             exact conv_any hz8 (by omega)
           clear e9
           refine hK2 _ _ hq8 ?_
           clear hK2 K2
           try simp only [Act.put, List.setIfInBounds_toArray, List.set_cons_zero, List.set_cons_succ]
           refine wpAnyH_sub (S' := fun w' => w' = w8) (fun w' h => by rw [h]; exact hq8) _ _ _ _ ?_
           have hq9 : (fun w' : World => w' = w8) w8 := rfl
           refine wpAnyH_tk (i := 34) 135 (.string (txB TL)) rfl (by kernel_rfl) (by kernel_rfl) (by kernel_rfl) (fun _ _ _ h => h) (by rfl) rfl hq9 (fun w' hw => by subst hw; go_simp) ?_
           simp only [Act.put, List.setIfInBounds_toArray, List.set_cons_zero, List.set_cons_succ]
           refine wpAnyH_tk (i := 35) 136 (.bool false) rfl (by kernel_rfl) (by kernel_rfl) (by kernel_rfl) (fun _ _ _ h => h) (by rfl) rfl hq9 (fun w' hw => by subst hw; go_simp) ?_
           simp only [Act.put, List.setIfInBounds_toArray, List.set_cons_zero, List.set_cons_succ]
           refine wpAnyH_tk (i := 36) 137 (.bool false) rfl (by kernel_rfl) (by kernel_rfl) (by kernel_rfl) (fun _ _ _ h => h) (by rfl) rfl hq9 (fun w' hw => by subst hw; go_simp) ?_
           simp only [Act.put, List.setIfInBounds_toArray, List.set_cons_zero, List.set_cons_succ]
           refine wpAnyH_tk (i := 37) 138 (.bool false) rfl (by kernel_rfl) (by kernel_rfl) (by kernel_rfl) (fun _ _ _ h => h) (by rfl) rfl hq9 (fun w' hw => by subst hw; go_simp) ?_
           simp only [Act.put, List.setIfInBounds_toArray, List.set_cons_zero, List.set_cons_succ]
           refine wpAnyH_done (by kernel_rfl) ?_ _
           go_wp2_with fail
           go_meet
           case rel => exact ⟨rfl, hB8⟩
         · have hcb : (cT == 0) = false := by simpa using hcT
           clear hcT
           refine wpAnyH_tk (i := 28) 129 (.bool false) rfl (by kernel_rfl) (by kernel_rfl) (by kernel_rfl) (fun _ _ _ h => h) (by rfl) rfl hq7 (fun w' hw => by obtain ⟨m0, m1, m2, m3, m4⟩ := hw; go_simp) ?_
           simp only [Act.put, List.setIfInBounds_toArray, List.set_cons_zero, List.set_cons_succ]
           refine wpAnyH_tk (i := 29) 130 (.bool false) rfl (by kernel_rfl) (by kernel_rfl) (by kernel_rfl) (fun _ _ _ h => h) (by rfl) rfl hq7 (fun w' hw => by obtain ⟨m0, m1, m2, m3, m4⟩ := hw; go_simp) ?_
           simp only [Act.put, List.setIfInBounds_toArray, List.set_cons_zero, List.set_cons_succ]
           refine wpAnyH_no (i := 30) 131 rfl (by kernel_rfl) (by kernel_rfl) (by kernel_rfl) (fun _ _ _ h => h) (by rfl) rfl hq7 ?_
           simp only [Act.put, List.setIfInBounds_toArray, List.set_cons_zero, List.set_cons_succ]
           refine wpAnyH_no (i := 31) 132 rfl (by kernel_rfl) (by kernel_rfl) (by kernel_rfl) (fun _ _ _ h => h) (by rfl) rfl hq7 ?_
           simp only [Act.put, List.setIfInBounds_toArray, List.set_cons_zero, List.set_cons_succ]
           refine wpAnyH_no (i := 32) 133 rfl (by kernel_rfl) (by kernel_rfl) (by kernel_rfl) (fun _ _ _ h => h) (by rfl) rfl hq7 ?_
           simp only [Act.put, List.setIfInBounds_toArray, List.set_cons_zero, List.set_cons_succ]
           refine wpAnyH_no (i := 33) 134 rfl (by kernel_rfl) (by kernel_rfl) (by kernel_rfl) (fun _ _ _ h => h) (by rfl) rfl hq7 ?_
           simp only [Act.put, List.setIfInBounds_toArray, List.set_cons_zero, List.set_cons_succ]
           refine wpAnyH_no (i := 34) 135 rfl (by kernel_rfl) (by kernel_rfl) (by kernel_rfl) (fun _ _ _ h => h) (by rfl) rfl hq7 ?_
           simp only [Act.put, List.setIfInBounds_toArray, List.set_cons_zero, List.set_cons_succ]
           refine wpAnyH_no (i := 35) 136 rfl (by kernel_rfl) (by kernel_rfl) (by kernel_rfl) (fun _ _ _ h => h) (by rfl) rfl hq7 ?_
           simp only [Act.put, List.setIfInBounds_toArray, List.set_cons_zero, List.set_cons_succ]
           refine wpAnyH_tk (i := 36) 137 (.bool false) rfl (by kernel_rfl) (by kernel_rfl) (by kernel_rfl) (fun _ _ _ h => h) (by rfl) rfl hq7 (fun w' hw => by obtain ⟨m0, m1, m2, m3, m4⟩ := hw; go_simp) ?_
           simp only [Act.put, List.setIfInBounds_toArray, List.set_cons_zero, List.set_cons_succ]
           refine wpAnyH_tk (i := 37) 138 (.bool false) rfl (by kernel_rfl) (by kernel_rfl) (by kernel_rfl) (fun _ _ _ h => h) (by rfl) rfl hq7 (fun w' hw => by obtain ⟨m0, m1, m2, m3, m4⟩ := hw; go_simp) ?_
           simp only [Act.put, List.setIfInBounds_toArray, List.set_cons_zero, List.set_cons_succ]
           refine wpAnyH_done (by kernel_rfl) ?_ _
           go_wp2_with fail
           go_meet
           case rel => exact ⟨rfl, hB7⟩
    case rest =>
      obtain ⟨rfl, hcut⟩ := hcut
      obtain ⟨W16, hW16⟩ : ∃ W16, W16 = wc := ⟨_, rfl⟩
      subst hW16
      have HE16 : Hid (ECase W16 cN (.slice na nl ncp) nc DN) := HE15.out.below hcut
      have HK16 : Hid (Blk W16 (.slice (some ⟨tg, 0, none⟩) 128 128) TL) := HK15.out.below hcut
      have HB16 : Hid (Below w.heap.size w W16) := HB15.out.trans (hcut.mono HB15.out.size)
      clear hcut HE15 HK15 HB15 hr16 hs16 hX15 hX16 HD12
      go_wp2_with fail
      refine (HDS.out _ (HV.out _ HB16.out)).mono ?_
      rintro e w21 ⟨⟨ea, ec, rfl, hB21, hc21⟩, hb21⟩
      go_wp2_with fail
      refine (specDecS' ea ec DS _ hB21 (by omega) hc21).mono ?_
      rintro e w22 ⟨⟨cS, SN, sg, sx, st, sr, sva, svc, rfl, hr22, hS, hva⟩, hb22⟩
      have hb22' := hb21.trans (hb22.mono hb21.size)
      have HSC : Hid (SCase DS cS SN sg sx st sr) := hS
      have HVA : Hid (cS ≠ 0 → sva = none ∧ svc = 0) := hva
      clear hB21 hc21 hb21 hb22 hS hva
      have hb23 := belowA w22 (.cells #[.int .i64 SN, .int .i64 sg, .int .i64 sx, .int .i64 st, .slice sva sr.length svc] 41)
      have hX23 := heap_alloc_new w22 (.cells #[.int .i64 SN, .int .i64 sg, .int .i64 sx, .int .i64 st, .slice sva sr.length svc] 41)
      have hr23 := hr22.below hb23
      have hB23 := hb22'.trans (hb23.mono hb22'.size)
      obtain ⟨SB, HSBX⟩ : ∃ SB, Hid (w22.heap.size = SB) := ⟨_, rfl⟩
      rw [HSBX.out] at hX23
      obtain ⟨n0, n1, n2, n3, n4⟩ := row5 hX23
      have hBw23 := HB16.out.trans (hB23.mono HB16.out.size)
      clear hr22 hb22' hb23
      go_upto_region 17 with fail
      rw [HSBX.out]
      generalize w22.alloc (.cells #[.int .i64 SN, .int .i64 sg, .int .i64 sx, .int .i64 st, .slice sva sr.length svc] 41) = W23 at *
      go_wp2_with fail
      refine (implEncS' HSC.out HVA.out (H5.out _ hBw23) hr23).mono ?_
      rintro e w24 ⟨⟨ba, bl, bcp, nc2, rfl, hE24⟩, hb24⟩
      have hX24 := (hb24.block _ (Array.getElem?_eq_some_iff.1 hX23).1).trans hX23
      have hr24 := hr23.below hb24
      have hB24 := hB23.trans (hb24.mono hB23.size)
      have HS24 : Hid (ECase w24 cS (.slice ba bl bcp) nc2 DS) := hE24
      have HR24 : Hid (TRead w24 (.slice sva sr.length svc) sr) := hr24
      have HX24 : Hid (w24.heap[SB]? = _) := hX24
      have HE24 : Hid (ECase w24 cN (.slice na nl ncp) nc DN) := HE16.out.below hB24
      have HK24 : Hid (Blk w24 (.slice (some ⟨tg, 0, none⟩) 128 128) TL) := HK16.out.below hB24
      have HB24 : Hid (Below w.heap.size w w24) := HB16.out.trans (hB24.mono HB16.out.size)
      clear hE24 hr23 hr24 hX23 hX24 hB23 hB24 hb24 n0 n1 n2 n3 n4 hBw23 HE16 HK16 HB16
      go_upto_if 151 with fail
      go_cut [] (fun wx => Below w24.heap.size w24 wx)
      case first => as_aux_lemma =>
        have HB0 := HB24
        rcases HSC.out with ⟨hx, rfl, rfl, rfl, rfl, rfl⟩ | ⟨rfl, hok, hD⟩
        · rcases HS24.out with ⟨-, rfl⟩ | ⟨h0, -, -⟩
          · have hx' : (cS == 0) = false := by simpa using hx
            clear hx
            go_wp2_with fail
            go_meet
            case rel => exact Below.refl _ _
          · exact absurd h0 hx
        · rcases HS24.out with ⟨h0, -⟩ | ⟨-, rfl, hK⟩
          · exact absurd rfl h0
          · have HK : Hid (Blk w24 (.slice ba bl bcp) DS) := hK
            obtain ⟨g, hv, hA⟩ := hK.form
            have hdl := hA.1
            simp only [Value.slice.injEq] at hv
            obtain ⟨rfl, rfl, rfl⟩ := hv
            rw [hD] at hA
            clear hD
            have HA : Hid (Arr w24 g (supL SN sg sx st sr)) := hA
            clear hA hK HVA
            go_wp2_with fail
            refine (implDecS_ok hok g 0 128 _ HA.out.2.bts).mono ?_
            rintro e w25 ⟨⟨ya, yc, rfl, hr25⟩, hb25⟩
            have hb26 := belowA w25 (.cells #[.int .i64 SN, .int .i64 sg, .int .i64 sx, .int .i64 st, .slice ya sr.length yc] 41)
            have hX26 := heap_alloc_new w25 (.cells #[.int .i64 SN, .int .i64 sg, .int .i64 sx, .int .i64 st, .slice ya sr.length yc] 41)
            have hr26 := hr25.below hb26
            have hB26 := hb25.trans (hb26.mono hb25.size)
            have hXN := (hB26.block _ (Array.getElem?_eq_some_iff.1 HX24.out).1).trans HX24.out
            obtain ⟨S2, HS2⟩ : ∃ S2, Hid (w25.heap.size = S2) := ⟨_, rfl⟩
            rw [HS2.out] at hX26
            clear hr25 hb26 hb25
            go_upto_region 20 with fail
            rw [HS2.out]
            generalize w25.alloc (.cells #[.int .i64 SN, .int .i64 sg, .int .i64 sx, .int .i64 st, .slice ya sr.length yc] 41) = W26 at *
            have HR1 : Hid (TRead W26.drew (.slice ya sr.length yc) sr) := hr26.below (Below.refl _ _).drew
            have HR2 : Hid (TRead W26.drew (.slice sva sr.length svc) sr) := (HR24.out.below hB26).below (Below.refl _ _).drew
            have HBD : Hid (Below w24.heap.size w24 W26.drew) := hB26.drew
            have HXA : Hid (W26.drew.heap[SB]? = _) := hXN
            have HXB : Hid (W26.drew.heap[S2]? = _) := hX26
            obtain ⟨q0, q1, q2, q3, q4⟩ := row5 HXA.out
            obtain ⟨r0, r1, r2, r3, r4⟩ := row5 HXB.out
            have tt := tl_self (txB DS)
            have f1 : (sg != sg) = false := by simp
            have f2 : (sx != sx) = false := by simp
            have f3 : (st != st) = false := by simp
            have f4 : (SN != SN) = false := by simp
            have f5 : ((sr.length : Int) != (sr.length : Int)) = false := by simp
            have v6 := conv_any ((HK.out.below HBD.out).bts.1) (by omega)
            have hel : sr.length ≤ 1048576 := by have := hok.2.1.2; omega
            clear hr26 hXN hX26 hB26 HA hok
            refine wp_region_held (S := fun w' => w'.cell? ⟨SB, 0, none⟩ = some (.int .i64 SN) ∧ w'.cell? ⟨SB, 1, none⟩ = some (.int .i64 sg) ∧ w'.cell? ⟨SB, 2, none⟩ = some (.int .i64 sx) ∧ w'.cell? ⟨SB, 3, none⟩ = some (.int .i64 st) ∧ w'.cell? ⟨SB, 4, none⟩ = some (.slice sva sr.length svc) ∧ w'.cell? ⟨S2, 0, none⟩ = some (.int .i64 SN) ∧ w'.cell? ⟨S2, 1, none⟩ = some (.int .i64 sg) ∧ w'.cell? ⟨S2, 2, none⟩ = some (.int .i64 sx) ∧ w'.cell? ⟨S2, 3, none⟩ = some (.int .i64 st) ∧ w'.cell? ⟨S2, 4, none⟩ = some (.slice ya sr.length yc) ∧ (convert 22 9 (.slice (some ⟨g, 0, none⟩) 128 128)).run Tryz.prog w' = .ok (.string (txB DS)) w') (by kernel_rfl) ?_
            have hq0 : (fun w' : World => w'.cell? ⟨SB, 0, none⟩ = some (.int .i64 SN) ∧ w'.cell? ⟨SB, 1, none⟩ = some (.int .i64 sg) ∧ w'.cell? ⟨SB, 2, none⟩ = some (.int .i64 sx) ∧ w'.cell? ⟨SB, 3, none⟩ = some (.int .i64 st) ∧ w'.cell? ⟨SB, 4, none⟩ = some (.slice sva sr.length svc) ∧ w'.cell? ⟨S2, 0, none⟩ = some (.int .i64 SN) ∧ w'.cell? ⟨S2, 1, none⟩ = some (.int .i64 sg) ∧ w'.cell? ⟨S2, 2, none⟩ = some (.int .i64 sx) ∧ w'.cell? ⟨S2, 3, none⟩ = some (.int .i64 st) ∧ w'.cell? ⟨S2, 4, none⟩ = some (.slice ya sr.length yc) ∧ (convert 22 9 (.slice (some ⟨g, 0, none⟩) 128 128)).run Tryz.prog w' = .ok (.string (txB DS)) w') W26.drew := ⟨q0, q1, q2, q3, q4, r0, r1, r2, r3, r4, v6⟩
            show wpAnyH _ _ _ _ _ _ _ _ W26.drew
            refine wpAnyH_tk (i := 0) 157 (.int .i64 0) rfl (by kernel_rfl) (by kernel_rfl) (by kernel_rfl) (fun _ _ _ h => h) (by rfl) rfl hq0 (fun w' hw => by obtain ⟨m0, m1, m2, m3, m4, m5, m6, m7, m8, m9, m10⟩ := hw; go_simp) ?_
            simp only [Act.put, List.setIfInBounds_toArray, List.set_cons_zero, List.set_cons_succ]
            refine wpAnyH_tk (i := 1) 158 (.bool false) rfl (by kernel_rfl) (by kernel_rfl) (by kernel_rfl) (fun _ _ _ h => h) (by rfl) rfl hq0 (fun w' hw => by obtain ⟨m0, m1, m2, m3, m4, m5, m6, m7, m8, m9, m10⟩ := hw; go_simp) ?_
            simp only [Act.put, List.setIfInBounds_toArray, List.set_cons_zero, List.set_cons_succ]
            refine wpAnyH_tk (i := 2) 159 (.bool false) rfl (by kernel_rfl) (by kernel_rfl) (by kernel_rfl) (fun _ _ _ h => h) (by rfl) rfl hq0 (fun w' hw => by obtain ⟨m0, m1, m2, m3, m4, m5, m6, m7, m8, m9, m10⟩ := hw; go_simp) ?_
            simp only [Act.put, List.setIfInBounds_toArray, List.set_cons_zero, List.set_cons_succ]
            refine wpAnyH_tk (i := 3) 160 (.slice (some ⟨g, 0, none⟩) 128 128) rfl (by kernel_rfl) (by kernel_rfl) (by kernel_rfl) (fun _ _ _ h => h) (by rfl) rfl hq0 (fun w' hw => by obtain ⟨m0, m1, m2, m3, m4, m5, m6, m7, m8, m9, m10⟩ := hw; go_simp) ?_
            simp only [Act.put, List.setIfInBounds_toArray, List.set_cons_zero, List.set_cons_succ]
            refine wpAnyH_tk (i := 4) 161 (.int .i64 128) rfl (by kernel_rfl) (by kernel_rfl) (by kernel_rfl) (fun _ _ _ h => h) (by rfl) rfl hq0 (fun w' hw => by obtain ⟨m0, m1, m2, m3, m4, m5, m6, m7, m8, m9, m10⟩ := hw; go_simp) ?_
            simp only [Act.put, List.setIfInBounds_toArray, List.set_cons_zero, List.set_cons_succ]
            refine wpAnyH_tk (i := 5) 162 (.bool false) rfl (by kernel_rfl) (by kernel_rfl) (by kernel_rfl) (fun _ _ _ h => h) (by rfl) rfl hq0 (fun w' hw => by obtain ⟨m0, m1, m2, m3, m4, m5, m6, m7, m8, m9, m10⟩ := hw; go_simp) ?_
            simp only [Act.put, List.setIfInBounds_toArray, List.set_cons_zero, List.set_cons_succ]
            refine wpAnyH_tk (i := 6) 163 (.bool false) rfl (by kernel_rfl) (by kernel_rfl) (by kernel_rfl) (fun _ _ _ h => h) (by rfl) rfl hq0 (fun w' hw => by obtain ⟨m0, m1, m2, m3, m4, m5, m6, m7, m8, m9, m10⟩ := hw; go_simp) ?_
            simp only [Act.put, List.setIfInBounds_toArray, List.set_cons_zero, List.set_cons_succ]
            refine wpAnyH_tk (i := 7) 164 (.bool false) rfl (by kernel_rfl) (by kernel_rfl) (by kernel_rfl) (fun _ _ _ h => h) (by rfl) rfl hq0 (fun w' hw => by obtain ⟨m0, m1, m2, m3, m4, m5, m6, m7, m8, m9, m10⟩ := hw; go_simp) ?_
            simp only [Act.put, List.setIfInBounds_toArray, List.set_cons_zero, List.set_cons_succ]
            refine wpAnyH_tk (i := 8) 165 (.int .i64 0) rfl (by kernel_rfl) (by kernel_rfl) (by kernel_rfl) (fun _ _ _ h => h) (by rfl) rfl hq0 (fun w' hw => by obtain ⟨m0, m1, m2, m3, m4, m5, m6, m7, m8, m9, m10⟩ := hw; go_simp) ?_
            simp only [Act.put, List.setIfInBounds_toArray, List.set_cons_zero, List.set_cons_succ]
            refine wpAnyH_tk (i := 9) 166 (.bool false) rfl (by kernel_rfl) (by kernel_rfl) (by kernel_rfl) (fun _ _ _ h => h) (by rfl) rfl hq0 (fun w' hw => by obtain ⟨m0, m1, m2, m3, m4, m5, m6, m7, m8, m9, m10⟩ := hw; go_simp) ?_
            simp only [Act.put, List.setIfInBounds_toArray, List.set_cons_zero, List.set_cons_succ]
            refine wpAnyH_tk (i := 10) 167 (.bool false) rfl (by kernel_rfl) (by kernel_rfl) (by kernel_rfl) (fun _ _ _ h => h) (by rfl) rfl hq0 (fun w' hw => by obtain ⟨m0, m1, m2, m3, m4, m5, m6, m7, m8, m9, m10⟩ := hw; go_simp) ?_
            simp only [Act.put, List.setIfInBounds_toArray, List.set_cons_zero, List.set_cons_succ]
            refine wpAnyH_tk (i := 11) 168 (.bool false) rfl (by kernel_rfl) (by kernel_rfl) (by kernel_rfl) (fun _ _ _ h => h) (by rfl) rfl hq0 (fun w' hw => by obtain ⟨m0, m1, m2, m3, m4, m5, m6, m7, m8, m9, m10⟩ := hw; go_simp) ?_
            simp only [Act.put, List.setIfInBounds_toArray, List.set_cons_zero, List.set_cons_succ]
            as_aux_lemma =>
             refine wpAnyH_tk (i := 12) 169 (.pointer (some ⟨S2, 1, none⟩)) rfl (by kernel_rfl) (by kernel_rfl) (by kernel_rfl) (fun _ _ _ h => h) (by rfl) rfl hq0 (fun w' hw => by obtain ⟨m0, m1, m2, m3, m4, m5, m6, m7, m8, m9, m10⟩ := hw; go_simp) ?_
             simp only [Act.put, List.setIfInBounds_toArray, List.set_cons_zero, List.set_cons_succ]
             refine wpAnyH_tk (i := 13) 170 (.int .i64 sg) rfl (by kernel_rfl) (by kernel_rfl) (by kernel_rfl) (fun _ _ _ h => h) (by rfl) rfl hq0 (fun w' hw => by obtain ⟨m0, m1, m2, m3, m4, m5, m6, m7, m8, m9, m10⟩ := hw; go_simp) ?_
             simp only [Act.put, List.setIfInBounds_toArray, List.set_cons_zero, List.set_cons_succ]
             refine wpAnyH_tk (i := 14) 171 (.pointer (some ⟨SB, 1, none⟩)) rfl (by kernel_rfl) (by kernel_rfl) (by kernel_rfl) (fun _ _ _ h => h) (by rfl) rfl hq0 (fun w' hw => by obtain ⟨m0, m1, m2, m3, m4, m5, m6, m7, m8, m9, m10⟩ := hw; go_simp) ?_
             simp only [Act.put, List.setIfInBounds_toArray, List.set_cons_zero, List.set_cons_succ]
             refine wpAnyH_tk (i := 15) 172 (.int .i64 sg) rfl (by kernel_rfl) (by kernel_rfl) (by kernel_rfl) (fun _ _ _ h => h) (by rfl) rfl hq0 (fun w' hw => by obtain ⟨m0, m1, m2, m3, m4, m5, m6, m7, m8, m9, m10⟩ := hw; go_simp) ?_
             simp only [Act.put, List.setIfInBounds_toArray, List.set_cons_zero, List.set_cons_succ]
             refine wpAnyH_tk (i := 16) 173 (.bool false) rfl (by kernel_rfl) (by kernel_rfl) (by kernel_rfl) (fun _ _ _ h => h) (by rfl) rfl hq0 (fun w' hw => by obtain ⟨m0, m1, m2, m3, m4, m5, m6, m7, m8, m9, m10⟩ := hw; go_simp) ?_
             simp only [Act.put, List.setIfInBounds_toArray, List.set_cons_zero, List.set_cons_succ]
             refine wpAnyH_tk (i := 17) 174 (.bool false) rfl (by kernel_rfl) (by kernel_rfl) (by kernel_rfl) (fun _ _ _ h => h) (by rfl) rfl hq0 (fun w' hw => by obtain ⟨m0, m1, m2, m3, m4, m5, m6, m7, m8, m9, m10⟩ := hw; go_simp) ?_
             simp only [Act.put, List.setIfInBounds_toArray, List.set_cons_zero, List.set_cons_succ]
             refine wpAnyH_tk (i := 18) 175 (.bool false) rfl (by kernel_rfl) (by kernel_rfl) (by kernel_rfl) (fun _ _ _ h => h) (by rfl) rfl hq0 (fun w' hw => by obtain ⟨m0, m1, m2, m3, m4, m5, m6, m7, m8, m9, m10⟩ := hw; go_simp) ?_
             simp only [Act.put, List.setIfInBounds_toArray, List.set_cons_zero, List.set_cons_succ]
             refine wpAnyH_tk (i := 19) 176 (.pointer (some ⟨S2, 2, none⟩)) rfl (by kernel_rfl) (by kernel_rfl) (by kernel_rfl) (fun _ _ _ h => h) (by rfl) rfl hq0 (fun w' hw => by obtain ⟨m0, m1, m2, m3, m4, m5, m6, m7, m8, m9, m10⟩ := hw; go_simp) ?_
             simp only [Act.put, List.setIfInBounds_toArray, List.set_cons_zero, List.set_cons_succ]
             refine wpAnyH_tk (i := 20) 177 (.int .i64 sx) rfl (by kernel_rfl) (by kernel_rfl) (by kernel_rfl) (fun _ _ _ h => h) (by rfl) rfl hq0 (fun w' hw => by obtain ⟨m0, m1, m2, m3, m4, m5, m6, m7, m8, m9, m10⟩ := hw; go_simp) ?_
             simp only [Act.put, List.setIfInBounds_toArray, List.set_cons_zero, List.set_cons_succ]
             refine wpAnyH_tk (i := 21) 178 (.pointer (some ⟨SB, 2, none⟩)) rfl (by kernel_rfl) (by kernel_rfl) (by kernel_rfl) (fun _ _ _ h => h) (by rfl) rfl hq0 (fun w' hw => by obtain ⟨m0, m1, m2, m3, m4, m5, m6, m7, m8, m9, m10⟩ := hw; go_simp) ?_
             simp only [Act.put, List.setIfInBounds_toArray, List.set_cons_zero, List.set_cons_succ]
             refine wpAnyH_tk (i := 22) 179 (.int .i64 sx) rfl (by kernel_rfl) (by kernel_rfl) (by kernel_rfl) (fun _ _ _ h => h) (by rfl) rfl hq0 (fun w' hw => by obtain ⟨m0, m1, m2, m3, m4, m5, m6, m7, m8, m9, m10⟩ := hw; go_simp) ?_
             simp only [Act.put, List.setIfInBounds_toArray, List.set_cons_zero, List.set_cons_succ]
             refine wpAnyH_tk (i := 23) 180 (.bool false) rfl (by kernel_rfl) (by kernel_rfl) (by kernel_rfl) (fun _ _ _ h => h) (by rfl) rfl hq0 (fun w' hw => by obtain ⟨m0, m1, m2, m3, m4, m5, m6, m7, m8, m9, m10⟩ := hw; go_simp) ?_
             simp only [Act.put, List.setIfInBounds_toArray, List.set_cons_zero, List.set_cons_succ]
             as_aux_lemma =>
              refine wpAnyH_tk (i := 24) 181 (.bool false) rfl (by kernel_rfl) (by kernel_rfl) (by kernel_rfl) (fun _ _ _ h => h) (by rfl) rfl hq0 (fun w' hw => by obtain ⟨m0, m1, m2, m3, m4, m5, m6, m7, m8, m9, m10⟩ := hw; go_simp) ?_
              simp only [Act.put, List.setIfInBounds_toArray, List.set_cons_zero, List.set_cons_succ]
              refine wpAnyH_tk (i := 25) 182 (.bool false) rfl (by kernel_rfl) (by kernel_rfl) (by kernel_rfl) (fun _ _ _ h => h) (by rfl) rfl hq0 (fun w' hw => by obtain ⟨m0, m1, m2, m3, m4, m5, m6, m7, m8, m9, m10⟩ := hw; go_simp) ?_
              simp only [Act.put, List.setIfInBounds_toArray, List.set_cons_zero, List.set_cons_succ]
              refine wpAnyH_tk (i := 26) 183 (.pointer (some ⟨S2, 3, none⟩)) rfl (by kernel_rfl) (by kernel_rfl) (by kernel_rfl) (fun _ _ _ h => h) (by rfl) rfl hq0 (fun w' hw => by obtain ⟨m0, m1, m2, m3, m4, m5, m6, m7, m8, m9, m10⟩ := hw; go_simp) ?_
              simp only [Act.put, List.setIfInBounds_toArray, List.set_cons_zero, List.set_cons_succ]
              refine wpAnyH_tk (i := 27) 184 (.int .i64 st) rfl (by kernel_rfl) (by kernel_rfl) (by kernel_rfl) (fun _ _ _ h => h) (by rfl) rfl hq0 (fun w' hw => by obtain ⟨m0, m1, m2, m3, m4, m5, m6, m7, m8, m9, m10⟩ := hw; go_simp) ?_
              simp only [Act.put, List.setIfInBounds_toArray, List.set_cons_zero, List.set_cons_succ]
              refine wpAnyH_tk (i := 28) 185 (.pointer (some ⟨SB, 3, none⟩)) rfl (by kernel_rfl) (by kernel_rfl) (by kernel_rfl) (fun _ _ _ h => h) (by rfl) rfl hq0 (fun w' hw => by obtain ⟨m0, m1, m2, m3, m4, m5, m6, m7, m8, m9, m10⟩ := hw; go_simp) ?_
              simp only [Act.put, List.setIfInBounds_toArray, List.set_cons_zero, List.set_cons_succ]
              refine wpAnyH_tk (i := 29) 186 (.int .i64 st) rfl (by kernel_rfl) (by kernel_rfl) (by kernel_rfl) (fun _ _ _ h => h) (by rfl) rfl hq0 (fun w' hw => by obtain ⟨m0, m1, m2, m3, m4, m5, m6, m7, m8, m9, m10⟩ := hw; go_simp) ?_
              simp only [Act.put, List.setIfInBounds_toArray, List.set_cons_zero, List.set_cons_succ]
              refine wpAnyH_tk (i := 30) 187 (.bool false) rfl (by kernel_rfl) (by kernel_rfl) (by kernel_rfl) (fun _ _ _ h => h) (by rfl) rfl hq0 (fun w' hw => by obtain ⟨m0, m1, m2, m3, m4, m5, m6, m7, m8, m9, m10⟩ := hw; go_simp) ?_
              simp only [Act.put, List.setIfInBounds_toArray, List.set_cons_zero, List.set_cons_succ]
              refine wpAnyH_tk (i := 31) 188 (.bool false) rfl (by kernel_rfl) (by kernel_rfl) (by kernel_rfl) (fun _ _ _ h => h) (by rfl) rfl hq0 (fun w' hw => by obtain ⟨m0, m1, m2, m3, m4, m5, m6, m7, m8, m9, m10⟩ := hw; go_simp) ?_
              simp only [Act.put, List.setIfInBounds_toArray, List.set_cons_zero, List.set_cons_succ]
              refine wpAnyH_tk (i := 32) 189 (.bool false) rfl (by kernel_rfl) (by kernel_rfl) (by kernel_rfl) (fun _ _ _ h => h) (by rfl) rfl hq0 (fun w' hw => by obtain ⟨m0, m1, m2, m3, m4, m5, m6, m7, m8, m9, m10⟩ := hw; go_simp) ?_
              simp only [Act.put, List.setIfInBounds_toArray, List.set_cons_zero, List.set_cons_succ]
              refine wpAnyH_tk (i := 33) 190 (.pointer (some ⟨S2, 0, none⟩)) rfl (by kernel_rfl) (by kernel_rfl) (by kernel_rfl) (fun _ _ _ h => h) (by rfl) rfl hq0 (fun w' hw => by obtain ⟨m0, m1, m2, m3, m4, m5, m6, m7, m8, m9, m10⟩ := hw; go_simp) ?_
              simp only [Act.put, List.setIfInBounds_toArray, List.set_cons_zero, List.set_cons_succ]
              refine wpAnyH_tk (i := 34) 191 (.int .i64 SN) rfl (by kernel_rfl) (by kernel_rfl) (by kernel_rfl) (fun _ _ _ h => h) (by rfl) rfl hq0 (fun w' hw => by obtain ⟨m0, m1, m2, m3, m4, m5, m6, m7, m8, m9, m10⟩ := hw; go_simp) ?_
              simp only [Act.put, List.setIfInBounds_toArray, List.set_cons_zero, List.set_cons_succ]
              refine wpAnyH_tk (i := 35) 192 (.pointer (some ⟨SB, 0, none⟩)) rfl (by kernel_rfl) (by kernel_rfl) (by kernel_rfl) (fun _ _ _ h => h) (by rfl) rfl hq0 (fun w' hw => by obtain ⟨m0, m1, m2, m3, m4, m5, m6, m7, m8, m9, m10⟩ := hw; go_simp) ?_
              simp only [Act.put, List.setIfInBounds_toArray, List.set_cons_zero, List.set_cons_succ]
              as_aux_lemma =>
               refine wpAnyH_tk (i := 36) 193 (.int .i64 SN) rfl (by kernel_rfl) (by kernel_rfl) (by kernel_rfl) (fun _ _ _ h => h) (by rfl) rfl hq0 (fun w' hw => by obtain ⟨m0, m1, m2, m3, m4, m5, m6, m7, m8, m9, m10⟩ := hw; go_simp) ?_
               simp only [Act.put, List.setIfInBounds_toArray, List.set_cons_zero, List.set_cons_succ]
               refine wpAnyH_tk (i := 37) 194 (.bool false) rfl (by kernel_rfl) (by kernel_rfl) (by kernel_rfl) (fun _ _ _ h => h) (by rfl) rfl hq0 (fun w' hw => by obtain ⟨m0, m1, m2, m3, m4, m5, m6, m7, m8, m9, m10⟩ := hw; go_simp) ?_
               simp only [Act.put, List.setIfInBounds_toArray, List.set_cons_zero, List.set_cons_succ]
               refine wpAnyH_tk (i := 38) 195 (.bool false) rfl (by kernel_rfl) (by kernel_rfl) (by kernel_rfl) (fun _ _ _ h => h) (by rfl) rfl hq0 (fun w' hw => by obtain ⟨m0, m1, m2, m3, m4, m5, m6, m7, m8, m9, m10⟩ := hw; go_simp) ?_
               simp only [Act.put, List.setIfInBounds_toArray, List.set_cons_zero, List.set_cons_succ]
               refine wpAnyH_tk (i := 39) 196 (.bool false) rfl (by kernel_rfl) (by kernel_rfl) (by kernel_rfl) (fun _ _ _ h => h) (by rfl) rfl hq0 (fun w' hw => by obtain ⟨m0, m1, m2, m3, m4, m5, m6, m7, m8, m9, m10⟩ := hw; go_simp) ?_
               simp only [Act.put, List.setIfInBounds_toArray, List.set_cons_zero, List.set_cons_succ]
               refine wpAnyH_tk (i := 40) 197 (.pointer (some ⟨S2, 4, none⟩)) rfl (by kernel_rfl) (by kernel_rfl) (by kernel_rfl) (fun _ _ _ h => h) (by rfl) rfl hq0 (fun w' hw => by obtain ⟨m0, m1, m2, m3, m4, m5, m6, m7, m8, m9, m10⟩ := hw; go_simp) ?_
               simp only [Act.put, List.setIfInBounds_toArray, List.set_cons_zero, List.set_cons_succ]
               refine wpAnyH_tk (i := 41) 198 (.slice ya sr.length yc) rfl (by kernel_rfl) (by kernel_rfl) (by kernel_rfl) (fun _ _ _ h => h) (by rfl) rfl hq0 (fun w' hw => by obtain ⟨m0, m1, m2, m3, m4, m5, m6, m7, m8, m9, m10⟩ := hw; go_simp) ?_
               simp only [Act.put, List.setIfInBounds_toArray, List.set_cons_zero, List.set_cons_succ]
               refine wpAnyH_tk (i := 42) 199 (.int .i64 sr.length) rfl (by kernel_rfl) (by kernel_rfl) (by kernel_rfl) (fun _ _ _ h => h) (by rfl) rfl hq0 (fun w' hw => by obtain ⟨m0, m1, m2, m3, m4, m5, m6, m7, m8, m9, m10⟩ := hw; go_simp) ?_
               simp only [Act.put, List.setIfInBounds_toArray, List.set_cons_zero, List.set_cons_succ]
               refine wpAnyH_tk (i := 43) 200 (.pointer (some ⟨SB, 4, none⟩)) rfl (by kernel_rfl) (by kernel_rfl) (by kernel_rfl) (fun _ _ _ h => h) (by rfl) rfl hq0 (fun w' hw => by obtain ⟨m0, m1, m2, m3, m4, m5, m6, m7, m8, m9, m10⟩ := hw; go_simp) ?_
               simp only [Act.put, List.setIfInBounds_toArray, List.set_cons_zero, List.set_cons_succ]
               refine wpAnyH_tk (i := 44) 201 (.slice sva sr.length svc) rfl (by kernel_rfl) (by kernel_rfl) (by kernel_rfl) (fun _ _ _ h => h) (by rfl) rfl hq0 (fun w' hw => by obtain ⟨m0, m1, m2, m3, m4, m5, m6, m7, m8, m9, m10⟩ := hw; go_simp) ?_
               simp only [Act.put, List.setIfInBounds_toArray, List.set_cons_zero, List.set_cons_succ]
               refine wpAnyH_tk (i := 45) 202 (.int .i64 sr.length) rfl (by kernel_rfl) (by kernel_rfl) (by kernel_rfl) (fun _ _ _ h => h) (by rfl) rfl hq0 (fun w' hw => by obtain ⟨m0, m1, m2, m3, m4, m5, m6, m7, m8, m9, m10⟩ := hw; go_simp) ?_
               simp only [Act.put, List.setIfInBounds_toArray, List.set_cons_zero, List.set_cons_succ]
               refine wpAnyH_tk (i := 46) 203 (.bool false) rfl (by kernel_rfl) (by kernel_rfl) (by kernel_rfl) (fun _ _ _ h => h) (by rfl) rfl hq0 (fun w' hw => by obtain ⟨m0, m1, m2, m3, m4, m5, m6, m7, m8, m9, m10⟩ := hw; go_simp) ?_
               simp only [Act.put, List.setIfInBounds_toArray, List.set_cons_zero, List.set_cons_succ]
               refine wpAnyH_tk (i := 47) 204 (.bool false) rfl (by kernel_rfl) (by kernel_rfl) (by kernel_rfl) (fun _ _ _ h => h) (by rfl) rfl hq0 (fun w' hw => by obtain ⟨m0, m1, m2, m3, m4, m5, m6, m7, m8, m9, m10⟩ := hw; go_simp) ?_
               simp only [Act.put, List.setIfInBounds_toArray, List.set_cons_zero, List.set_cons_succ]
               refine wpAnyH_tk (i := 48) 205 (.bool false) rfl (by kernel_rfl) (by kernel_rfl) (by kernel_rfl) (fun _ _ _ h => h) (by rfl) rfl hq0 (fun w' hw => by obtain ⟨m0, m1, m2, m3, m4, m5, m6, m7, m8, m9, m10⟩ := hw; go_simp) ?_
               simp only [Act.put, List.setIfInBounds_toArray, List.set_cons_zero, List.set_cons_succ]
               refine wpAnyH_tk (i := 49) 206 (.slice (some ⟨g, 0, none⟩) 128 128) rfl (by kernel_rfl) (by kernel_rfl) (by kernel_rfl) (fun _ _ _ h => h) (by rfl) rfl hq0 (fun w' hw => by obtain ⟨m0, m1, m2, m3, m4, m5, m6, m7, m8, m9, m10⟩ := hw; go_simp) ?_
               simp only [Act.put, List.setIfInBounds_toArray, List.set_cons_zero, List.set_cons_succ]
               as_aux_lemma =>
                refine wpAnyH_tk (i := 50) 207 (.string (txB DS)) rfl (by kernel_rfl) (by kernel_rfl) (by kernel_rfl) (fun _ _ _ h => h) (by rfl) rfl hq0 (fun w' hw => by obtain ⟨m0, m1, m2, m3, m4, m5, m6, m7, m8, m9, m10⟩ := hw; go_simp) ?_
                simp only [Act.put, List.setIfInBounds_toArray, List.set_cons_zero, List.set_cons_succ]
                refine wpAnyH_tk (i := 51) 208 (.slice a1 zs.length c1) rfl (by kernel_rfl) (by kernel_rfl) (by kernel_rfl) (fun _ _ _ h => h) (by rfl) rfl hq0 (fun w' hw => by obtain ⟨m0, m1, m2, m3, m4, m5, m6, m7, m8, m9, m10⟩ := hw; go_simp) ?_
                simp only [Act.put, List.setIfInBounds_toArray, List.set_cons_zero, List.set_cons_succ]
                refine wpAnyH_one (i := 52) (by kernel_rfl) rfl (by rfl) (fun K2 hK2 => ?_)
                go_simp
                refine (HDS.out _ (HV.out _ (HB0.out.trans (HBD.out.mono HB0.out.size)))).mono ?_
                rintro e w8 ⟨⟨za, zc, rfl, hz8, hz9⟩, hb8⟩
                have hB8 := HBD.out.trans (hb8.mono HBD.out.size)
                have hxa8 := (hb8.block _ (Array.getElem?_eq_some_iff.1 HXA.out).1).trans HXA.out
                have hxb8 := (hb8.block _ (Array.getElem?_eq_some_iff.1 HXB.out).1).trans HXB.out
                have hq8 : (fun w' : World => w'.cell? ⟨SB, 0, none⟩ = some (.int .i64 SN) ∧ w'.cell? ⟨SB, 1, none⟩ = some (.int .i64 sg) ∧ w'.cell? ⟨SB, 2, none⟩ = some (.int .i64 sx) ∧ w'.cell? ⟨SB, 3, none⟩ = some (.int .i64 st) ∧ w'.cell? ⟨SB, 4, none⟩ = some (.slice sva sr.length svc) ∧ w'.cell? ⟨S2, 0, none⟩ = some (.int .i64 SN) ∧ w'.cell? ⟨S2, 1, none⟩ = some (.int .i64 sg) ∧ w'.cell? ⟨S2, 2, none⟩ = some (.int .i64 sx) ∧ w'.cell? ⟨S2, 3, none⟩ = some (.int .i64 st) ∧ w'.cell? ⟨S2, 4, none⟩ = some (.slice ya sr.length yc) ∧ (convert 22 9 (.slice (some ⟨g, 0, none⟩) 128 128)).run Tryz.prog w' = .ok (.string (txB DS)) w') w8 := by
                  obtain ⟨h0, h1, h2, h3, h4⟩ := row5 hxa8
                  obtain ⟨k0, k1, k2, k3, k4⟩ := row5 hxb8
                  exact ⟨h0, h1, h2, h3, h4, k0, k1, k2, k3, k4, conv_any ((HK.out.below hB8).bts.1) (by omega)⟩
                have v9 := conv_any hz8 (by omega)
                rw [hdl] at v9
                refine hK2 _ _ hq8 ?_
                clear hK2 K2
                try simp only [Act.put, List.setIfInBounds_toArray, List.set_cons_zero, List.set_cons_succ]
                as_aux_lemma =>
                 refine wpAnyH_sub (S' := fun w' => w' = w8) (fun w' h => by rw [h]; exact hq8) _ _ _ _ ?_
                 have hq9 : (fun w' : World => w' = w8) w8 := rfl
                 refine wpAnyH_tk (i := 53) 210 (.string (txB DS)) rfl (by kernel_rfl) (by kernel_rfl) (by kernel_rfl) (fun _ _ _ h => h) (by rfl) rfl hq9 (fun w' hw => by subst hw; go_simp) ?_
                 simp only [Act.put, List.setIfInBounds_toArray, List.set_cons_zero, List.set_cons_succ]
                 refine wpAnyH_tk (i := 54) 211 (.bool false) rfl (by kernel_rfl) (by kernel_rfl) (by kernel_rfl) (fun _ _ _ h => h) (by rfl) rfl hq9 (fun w' hw => by subst hw; go_simp) ?_
                 simp only [Act.put, List.setIfInBounds_toArray, List.set_cons_zero, List.set_cons_succ]
                 refine wpAnyH_tk (i := 55) 212 (.bool false) rfl (by kernel_rfl) (by kernel_rfl) (by kernel_rfl) (fun _ _ _ h => h) (by rfl) rfl hq9 (fun w' hw => by subst hw; go_simp) ?_
                 simp only [Act.put, List.setIfInBounds_toArray, List.set_cons_zero, List.set_cons_succ]
                 refine wpAnyH_done (by kernel_rfl) ?_ _
                 have HBE : Hid (Below w24.heap.size w24 w8) := hB8
                 have HR3 : Hid (TRead w8 (.slice ya sr.length yc) sr) := HR1.out.below hb8
                 have HR4 : Hid (TRead w8 (.slice sva sr.length svc) sr) := HR2.out.below hb8
                 have HXA8 : Hid (w8.heap[SB]? = _) := hxa8
                 have HXB8 : Hid (w8.heap[S2]? = _) := hxb8
                 obtain ⟨s0, s1, s2, s3, s4⟩ := row5 hxa8
                 clear hB8 v9 hb8 hz8 hq0 hq8 hq9 v6 q0 q1 q2 q3 q4 r0 r1 r2 r3 r4 HR1 HR2 HBD HXA HXB hxa8 hxb8 s0 s1 s2 s3 f1 f2 f3 f4 f5 tt
                 go_wp2_with fail
                 clear s4
                 go_loopw [23] (fun i wr => ∃ j : Nat, j ≤ sr.length ∧ i = .int .i64 j ∧ Below w8.heap.size w8 wr) (fun i _ => sr.length - (intOf i).toNat)
                 case atStart => exact ⟨0, Nat.zero_le _, rfl, Below.refl _ _⟩
                 case round =>
                   obtain ⟨j, hj, rfl, hbr⟩ := hrel
                   obtain ⟨-, -, -, -, q4⟩ := row5 ((hbr.block _ (Array.getElem?_eq_some_iff.1 HXA8.out).1).trans HXA8.out)
                   obtain ⟨-, -, -, -, r4⟩ := row5 ((hbr.block _ (Array.getElem?_eq_some_iff.1 HXB8.out).1).trans HXB8.out)
                   by_cases hlt : j < sr.length
                   · have hi : (j : Int) < (sr.length : Int) := by omega
                     obtain ⟨_, _, he, hc⟩ := HR3.out
                     simp only [Value.slice.injEq, true_and] at he
                     obtain ⟨rfl, rfl⟩ := he
                     obtain ⟨_, _, he, hc'⟩ := HR4.out
                     simp only [Value.slice.injEq, true_and] at he
                     obtain ⟨rfl, rfl⟩ := he
                     obtain ⟨b, off, rfl, hcell⟩ := hc (by omega)
                     obtain ⟨b', off', rfl, hcell'⟩ := hc' (by omega)
                     obtain ⟨g1, g2⟩ := hcell j hlt
                     obtain ⟨k1, k2⟩ := hcell' j hlt
                     have hbw : b < w8.heap.size := World.block_lt_of_cell? _ _ g1
                     have hbw' : b' < w8.heap.size := World.block_lt_of_cell? _ _ k1
                     rw [← hbr.cell (p := ⟨b, off + j * 2, none⟩) hbw] at g1
                     rw [← hbr.cell (p := ⟨b, off + j * 2 + 1, none⟩) hbw] at g2
                     rw [← hbr.cell (p := ⟨b', off' + j * 2, none⟩) hbw'] at k1
                     rw [← hbr.cell (p := ⟨b', off' + j * 2 + 1, none⟩) hbw'] at k2
                     generalize sr.getD j (0, 0) = r at g1 g2 k1 k2
                     obtain ⟨x, y⟩ := r
                     simp only at g1 g2 k1 k2
                     have HBR := hbr.drew
                     clear hc hc' hcell hcell'
                     go_wp2_with fail
                     go_region_held3 (fun w' => w'.cell? ⟨SB, 4, none⟩ = some (.slice (some ⟨b', off', none⟩) sr.length svc) ∧ w'.cell? ⟨S2, 4, none⟩ = some (.slice (some ⟨b, off, none⟩) sr.length yc) ∧ w'.cell? ⟨b, off + j * 2, none⟩ = some (.int .i64 x) ∧ w'.cell? ⟨b, off + j * 2 + 1, none⟩ = some (.int .i64 y) ∧ w'.cell? ⟨b', off' + j * 2, none⟩ = some (.int .i64 x) ∧ w'.cell? ⟨b', off' + j * 2 + 1, none⟩ = some (.int .i64 y)) (first | go_keep | assumption | exact ⟨q4, r4, g1, g2, k1, k2⟩) (fail)
                     clear q4 r4 g1 g2 k1 k2
                     go_wp2_with fail
                     go_roundw
                     case rel => exact ⟨j + 1, by omega, by go_num, HBR⟩
                     case measure => simp [intOf]; omega
                   · have hi : ¬ (j : Int) < (sr.length : Int) := by omega
                     go_wp2_with fail
                     go_meet
                     case rel => exact HBE.out.trans (hbr.mono HBE.out.size)
      case rest =>
        obtain ⟨W30, hW30⟩ : ∃ W30, W30 = wc := ⟨_, rfl⟩
        subst hW30
        have HE30 : Hid (ECase W30 cN (.slice na nl ncp) nc DN) := HE24.out.below hcut
        have HK30 : Hid (Blk W30 (.slice (some ⟨tg, 0, none⟩) 128 128) TL) := HK24.out.below hcut
        have HS30 : Hid (ECase W30 cS (.slice ba bl bcp) nc2 DS) := HS24.out.below hcut
        have HB30 : Hid (Below w.heap.size w W30) := HB24.out.trans (hcut.mono HB24.out.size)
        clear hcut HE24 HK24 HS24 HB24 HSC HVA HSBX HR24 HX24 HDN HDT HDS
        go_wp2_with fail
        go_loopw [24] (fun i wr => ∃ j : Nat, j ≤ 30 ∧ j ≤ ms.length ∧ i = .int .i64 j ∧ Below W30.heap.size W30 wr) (fun i _ => 30 - (intOf i).toNat)
        case atStart => exact ⟨0, Nat.zero_le _, Nat.zero_le _, rfl, Below.refl _ _⟩
        case round =>
          obtain ⟨j, hj30, hj, rfl, hbr⟩ := hrel
          by_cases h30 : j < 30
          · by_cases hlt : j < ms.length
            · have hi30 : (j : Int) < 30 := by omega
              have hi : (j : Int) < (ms.length : Int) := by omega
              have hBw := HB30.out.trans (hbr.mono HB30.out.size)
              have hBm := HVM.out _ hBw
              obtain ⟨_, _, he, hc⟩ := hBm.shape
              simp only [Value.slice.injEq, true_and] at he
              obtain ⟨rfl, rfl⟩ := he
              obtain ⟨mb, mo, rfl, hcell⟩ := hc (by omega)
              have m0 := hcell j hlt
              have hms := hBm.small j
              generalize ms.getD j 0 = m at m0 hms
              have w97 : IntKind.i64.wrap (97 * (j : Int)) = 97 * (j : Int) := IntWalk.i64_in _ ⟨by omega, by omega⟩
              have wsm : IntKind.i64.wrap (m + 97 * (j : Int)) = m + 97 * (j : Int) := IntWalk.i64_in _ ⟨by omega, by omega⟩
              clear hc hcell hBm
              go_wp2_with fail
              obtain ⟨at', hat⟩ : ∃ at' : Nat, (m + 97 * (j : Int)) % 128 = (at' : Int) := ⟨((m + 97 * (j : Int)) % 128).toNat, by omega⟩
              obtain ⟨s8, hs8⟩ : ∃ s8 : Nat, (m % 8).toNat = s8 := ⟨_, rfl⟩
              obtain ⟨bt, HBT⟩ : ∃ bt : Int, Hid ((2 : Int) ^ s8 % 256 = bt) := ⟨_, rfl⟩
              have ha : at' < 128 := by omega
              have hs : s8 < 8 := by omega
              have haI : (at' : Int) < 128 := by omega
              rw [hat, hs8, HBT.out]
              have hK1 := HK30.out.below hbr
              have hBw1 := hBw
              clear hat hs8 hms m0 w97 wsm hBw
              obtain ⟨hKb1, hKl1⟩ := hK1.bts
              refine (fCopy_row _ TL _ hKb1 (by omega)).mono ?_
              rintro e x1 ⟨u1, rfl, hrow1, hbx1⟩
              obtain ⟨q1, cap1, rfl, hcap1, g1, g2, L1, hL1, hbX1, hl1, hy1, hne1⟩ := turn_row hKl1 hK1.byt hK1.sld hrow1 hbx1 ha hs
              obtain ⟨bx1, HBX1⟩ : ∃ bx, Hid (TL.getD at' 0 = bx) := ⟨_, rfl⟩
              rw [HBX1.out] at g1 hL1 hbX1
              rw [HBT.out] at hL1 hbX1
              obtain ⟨X1, HX1⟩ : ∃ X, Hid (x1.setCell ⟨q1, at', none⟩ (.int .u8 (bits .xor .u8 bx1 bt)) = X) := ⟨_, rfl⟩
              rw [HX1.out] at hL1 hbX1
              have HLL1 : Hid (L1.length = 128) := hl1
              have HNE1 : Hid (¬ putL L1 124 (crcOf (L1.take 124)) 4 = L1) := hne1
              have HLB1 : Hid (Bts X1 (.slice (some ⟨q1, 0, none⟩) 128 cap1) L1) := hL1
              have HYY1 : Hid (Byt L1) := hy1
              clear hl1 hne1 hL1 hy1 hrow1 hbx1 hKb1 hKl1 HBX1
              go_wp2_with fail
              rw [HX1.out]
              refine (implDecT_sum L1 HLL1.out HYY1.out HNE1.out q1 0 cap1 _ (H5.out _ (hBw1.trans (hbX1.mono hBw1.size))).two HLB1.out).mono ?_
              rintro e y1 ⟨rfl, hby1⟩
              have hB1 := hbX1.trans (hby1.mono hbX1.size)
              clear g1 g2 hbX1 hby1 HLL1 HNE1 HLB1 HYY1 HX1
              have hbA := belowA y1 (.cells #[.int .i64 0, .slice none 0 0] 34)
              have hB2 := hB1.trans (hbA.mono hB1.size)
              clear hB1 hbA hK1
              go_upto_if 279 with fail
              generalize y1.alloc (.cells #[.int .i64 0, .slice none 0 0] 34) = X3 at *
              have HB3 : Hid (Below W30.heap.size W30 X3) := hbr.trans (hB2.mono hbr.size)
              clear hB2 hBw1 hbr
              go_cut [] (fun wx => Below X3.heap.size X3 wx)
              case first => as_aux_lemma =>
                rcases HE30.out with ⟨hx, -⟩ | ⟨rfl, -, hK⟩
                · have hx' : (cN == 0) = false := by simpa using hx
                  clear hx
                  go_wp2_with fail
                  go_meet
                  case rel => exact Below.refl _ _
                · have hK2 := hK.below HB3.out
                  obtain ⟨g, hv, -⟩ := hK.form
                  simp only [Value.slice.injEq] at hv
                  obtain ⟨rfl, rfl, rfl⟩ := hv
                  have hBw2 := HB30.out.trans (HB3.out.mono HB30.out.size)
                  clear hK
                  go_wp2_with fail
                  obtain ⟨hKb2, hKl2⟩ := hK2.bts
                  refine (fCopy_row _ DN _ hKb2 (by omega)).mono ?_
                  rintro e x2 ⟨u2, rfl, hrow2, hbx2⟩
                  obtain ⟨q2, cap2, rfl, hcap2, g1, g2, L2, hL2, hbX2, hl2, hy2, hne2⟩ := turn_row hKl2 hK2.byt hK2.sld hrow2 hbx2 ha hs
                  obtain ⟨bx2, HBX2⟩ : ∃ bx, Hid (DN.getD at' 0 = bx) := ⟨_, rfl⟩
                  rw [HBX2.out] at g1 hL2 hbX2
                  rw [HBT.out] at hL2 hbX2
                  obtain ⟨X2, HX2⟩ : ∃ X, Hid (x2.setCell ⟨q2, at', none⟩ (.int .u8 (bits .xor .u8 bx2 bt)) = X) := ⟨_, rfl⟩
                  rw [HX2.out] at hL2 hbX2
                  have HLL2 : Hid (L2.length = 128) := hl2
                  have HNE2 : Hid (¬ putL L2 124 (crcOf (L2.take 124)) 4 = L2) := hne2
                  have HLB2 : Hid (Bts X2 (.slice (some ⟨q2, 0, none⟩) 128 cap2) L2) := hL2
                  have HYY2 : Hid (Byt L2) := hy2
                  clear hl2 hne2 hL2 hy2 hrow2 hbx2 hKb2 hKl2 HBX2
                  go_wp2_with fail
                  rw [HX2.out]
                  refine (implDecN_sum L2 HLL2.out HYY2.out HNE2.out q2 0 cap2 _ (H5.out _ (hBw2.trans (hbX2.mono hBw2.size))).two HLB2.out).mono ?_
                  rintro e y2 ⟨rfl, hby2⟩
                  have hB2 := hbX2.trans (hby2.mono hbX2.size)
                  clear g1 g2 hbX2 hby2 HLL2 HNE2 HLB2 HYY2 HX2
                  go_wp2_with fail
                  go_meet
                  case rel => exact hB2
              case rest =>
                obtain ⟨X4, hX4⟩ : ∃ X4, X4 = wc := ⟨_, rfl⟩
                subst hX4
                have HB4 : Hid (Below W30.heap.size W30 X4) := HB3.out.trans (hcut.mono HB3.out.size)
                clear hcut HB3
                rcases HS30.out with ⟨hx, -⟩ | ⟨rfl, -, hK⟩
                · have hx' : (cS == 0) = false := by simpa using hx
                  clear hx
                  go_wp2_with fail
                  go_roundw
                  case rel => exact ⟨j + 1, by omega, by omega, by go_num, HB4.out⟩
                  case measure => simp [intOf]; omega
                · have hK3 := hK.below HB4.out
                  obtain ⟨g, hv, -⟩ := hK.form
                  simp only [Value.slice.injEq] at hv
                  obtain ⟨rfl, rfl, rfl⟩ := hv
                  have hBw3 := HB30.out.trans (HB4.out.mono HB30.out.size)
                  clear hK
                  go_wp2_with fail
                  obtain ⟨hKb3, hKl3⟩ := hK3.bts
                  refine (fCopy_row _ DS _ hKb3 (by omega)).mono ?_
                  rintro e x3 ⟨u3, rfl, hrow3, hbx3⟩
                  obtain ⟨q3, cap3, rfl, hcap3, g1, g2, L3, hL3, hbX3, hl3, hy3, hne3⟩ := turn_row hKl3 hK3.byt hK3.sld hrow3 hbx3 ha hs
                  obtain ⟨bx3, HBX3⟩ : ∃ bx, Hid (DS.getD at' 0 = bx) := ⟨_, rfl⟩
                  rw [HBX3.out] at g1 hL3 hbX3
                  rw [HBT.out] at hL3 hbX3
                  obtain ⟨X3, HX3⟩ : ∃ X, Hid (x3.setCell ⟨q3, at', none⟩ (.int .u8 (bits .xor .u8 bx3 bt)) = X) := ⟨_, rfl⟩
                  rw [HX3.out] at hL3 hbX3
                  have HLL3 : Hid (L3.length = 128) := hl3
                  have HNE3 : Hid (¬ putL L3 124 (crcOf (L3.take 124)) 4 = L3) := hne3
                  have HLB3 : Hid (Bts X3 (.slice (some ⟨q3, 0, none⟩) 128 cap3) L3) := hL3
                  have HYY3 : Hid (Byt L3) := hy3
                  clear hl3 hne3 hL3 hy3 hrow3 hbx3 hKb3 hKl3 HBX3
                  go_wp2_with fail
                  rw [HX3.out]
                  refine (implDecS_sum L3 HLL3.out HYY3.out HNE3.out q3 0 cap3 _ (H5.out _ (hBw3.trans (hbX3.mono hBw3.size))).two HLB3.out).mono ?_
                  rintro e y3 ⟨rfl, hby3⟩
                  have hB3 := hbX3.trans (hby3.mono hbX3.size)
                  clear g1 g2 hbX3 hby3 HLL3 HNE3 HLB3 HYY3 HX3
                  have HB5 : Hid (Below W30.heap.size W30 y3) := HB4.out.trans (hB3.mono HB4.out.size)
                  clear hB3 hBw3 hK3
                  go_wp2_with fail
                  go_roundw
                  case rel => exact ⟨j + 1, by omega, by omega, by go_num, HB5.out⟩
                  case measure => simp [intOf]; omega
            · have hi30 : (j : Int) < 30 := by omega
              have hi : ¬ (j : Int) < (ms.length : Int) := by omega
              go_wp2_with fail
              go_ret
              exact ⟨rfl, HB30.out.trans (hbr.mono HB30.out.size)⟩
          · have hi30 : ¬ (j : Int) < 30 := by omega
            go_wp2_with fail
            go_ret
            exact ⟨rfl, HB30.out.trans (hbr.mono HB30.out.size)⟩
end Go.Proofs.YtfbjagjgofdheaaGreatDoor
