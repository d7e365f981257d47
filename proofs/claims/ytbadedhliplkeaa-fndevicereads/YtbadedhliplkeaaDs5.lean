import Derived.Test.YtbadedhliplkeaaDs4
namespace Go.Proofs.Ytbadedhliplkeaa
open Go.RowKit
set_option linter.unusedVariables false

set_option maxHeartbeats 32000000 in
theorem l1DrawDevice_x (base g : Nat) (a : Option Addr) (c : Nat) (zs : List Int) (p : Nat × Int) (w : World) (hs : SrcX base g a c zs p w) :
    Calls Try.prog 37 #[.pointer (some ⟨g, 0, none⟩)] w fun e w' => ∃ v, e = .returned v ∧ DvR base g a c zs w (ddR zs p) v w' := by
  have HR : Hid (∀ B D p1 (m : Nat) p2, dbV zs p = B → dbS zs p = p1 → nxV zs p1 40 = (m : Int) → filled (dby zs (nxS zs p1) m) (B * 128).toNat = D → adv zs (nxS zs p1) m = p2 → ddR zs p = spl zs B D (dlp zs B ([], dbl zs (ddC zs p p2).2, adv zs (ddC zs p p2).2 3) (ddC zs p p2).1)) := by
    rintro B D p1 m p2 rfl rfl h3 rfl rfl
    unfold ddR ddA ddB
    rw [h3, Int.toNat_natCast]
  have hg := hs.lt
  have hlo0 := hs.lo
  have hB := dbV_in zs p
  have hA := belowA w (.cells #[.int .i64 0, .slice none 0 0, .slice none 0 0] 25)
  have hs0 := hs.below hA
  have hX := Box3.made w (.int .i64 0) (.slice none 0 0) (.slice none 0 0) 25 _ rfl
  go_enter Try.func37, Try.ntmps37
  go_wp2_with fail
  refine (l1DrawBlocks_x base g a c zs p _ hs0).mono ?_
  rintro e w1 ⟨rfl, hs1, hf1⟩
  have hX1 : Box3 w1 w.heap.size (.int .i64 0) (.slice none 0 0) (.slice none 0 0) 25 := (hf1.block _ (by simp) (by omega)).trans hX
  have hF1 : Frm (fun b => b = g ∨ w.heap.size ≤ b) w w1 := (Frm.of_below hA).trans (hf1.wider fun k e => .inl e)
  clear hX hs0 hs hA hf1
  generalize hBe : dbV zs p = B at hB ⊢
  obtain ⟨p1, hp1⟩ : ∃ p1, dbS zs p = p1 := ⟨_, rfl⟩
  rw [hp1] at hs1
  go_wp2_with fail
  refine (l1Next_x base g a c zs p1 40 (by decide) (by decide) _ hs1).mono ?_
  rintro e w2 ⟨rfl, hs2, hf2⟩
  have hm := nxV_in zs p1 (n := 40) (by decide) (by decide)
  obtain ⟨m, hmm⟩ : ∃ m : Nat, nxV zs p1 40 = (m : Int) := ⟨(nxV zs p1 40).toNat, by omega⟩
  rw [hmm] at hm ⊢
  have hX2 : Box3 w2 w.heap.size (.int .i64 0) (.slice none 0 0) (.slice none 0 0) 25 := (hf2.block _ hX1.lt (by omega)).trans hX1
  have hF2 := hF1.trans (hf2.wider fun k e => .inl e)
  clear hX1 hF1 hf2 hs1
  go_wp2_with fail
  refine (l1DrawBytes_x base g a c zs _ m (by omega) _ hs2).mono ?_
  rintro e w3 ⟨u, rfl, hD3⟩
  obtain ⟨ub, ucap, rfl, -, hub, hub2, hu3, hs3, hf3⟩ := hD3.out (by have := hF2.size; omega)
  have hX3 : Box3 w3 w.heap.size (.int .i64 0) (.slice none 0 0) (.slice none 0 0) 25 := (hf3.block _ hX2.lt (by omega)).trans hX2
  have hF3 := hF2.trans (hf3.wider fun k e => .inl e)
  clear hX2 hF2 hf3 hs2 hD3
  generalize hbs : dby zs (nxS zs p1) m = bs at hu3 ⊢
  have hbl : bs.length = m := by rw [← hbs, dby_length]
  have hu4 := hu3.bts
  rw [hbl] at hu4 ⊢
  have HBL : Hid (bs.length = m) := hbl
  have HBS : Hid (dby zs (nxS zs p1) m = bs) := hbs
  clear hbl hbs hu3
  go_wp2_with fail
  refine (specNew_cap B (.slice (some ⟨ub, 0, none⟩) m ucap) bs w3 hB hu4 (by have := HBL.out; omega)).mono ?_
  rintro e w4 ⟨da, dc, rfl, hdc, hO4, hb4⟩
  have hX4 := hX3.below hb4
  have hF4 := hF3.trans (Frm.of_below hb4)
  have hs4 := hs3.below hb4
  have hbA := belowA w4 (.cells #[.int .i64 B, .slice da (filled bs (B * 128).toNat).length dc, .slice none 0 0] 25)
  have hP5 : DvP base g a c zs w w4.heap.size w3.heap.size w4.heap.size B (.slice da (filled bs (B * 128).toNat).length dc) (filled bs (B * 128).toNat) (adv zs (nxS zs p1) m) (w4.alloc (.cells #[.int .i64 B, .slice da (filled bs (B * 128).toNat).length dc, .slice none 0 0] 25)) :=
    ⟨hs4.below hbA, hX4.below hbA, Box3.made _ _ _ _ _ _ rfl, hO4.below hbA, ⟨hX3.lt, hb4.size, Nat.le_refl _, by simp⟩, hF4.trans (Frm.of_below hbA)⟩
  have hD0 : 1 < (filled bs (B * 128).toNat).length := by rw [filled_length]; omega
  generalize hp2e : adv zs (nxS zs p1) m = p2 at hP5
  generalize hDe : filled bs (B * 128).toNat = D at hP5 hdc hD0 ⊢
  have HR2 : Hid (ddR zs p = spl zs B D (dlp zs B ([], dbl zs (ddC zs p p2).2, adv zs (ddC zs p p2).2 3) (ddC zs p p2).1)) := HR.out B D p1 m p2 hBe hp1 hmm (by rw [HBS.out]; exact hDe) hp2e
  have HDL : Hid (1 < D.length ∧ D.length ≤ dc) := ⟨hD0, hdc⟩
  clear hBe hp1 hDe hp2e HR hmm hD0 hdc
  obtain ⟨o, ho⟩ : ∃ o, w4.heap.size = o := ⟨_, rfl⟩
  obtain ⟨W5, hW5⟩ : ∃ W5, W5 = w4.alloc (.cells #[.int .i64 B, .slice da D.length dc, .slice none 0 0] 25) := ⟨_, rfl⟩
  rw [← hW5, ho] at hP5
  go_wp2_with fail
  rw [← hW5]
  clear hW5 hbA hO4 hb4 hX4 hX3 hF4 hF3 hs4 hs3 hu4 hub hub2 ho
  refine (l1Next_x base g a c zs _ 14 (by decide) (by decide) _ hP5.src).mono ?_
  rintro e w6 ⟨rfl, hs6, hf6⟩
  have hP6 := hP5.drawn hg hs6 hf6
  have hn1 := nxV_in zs p2 (n := 14) (by decide) (by decide)
  obtain ⟨n1, hn1e⟩ : ∃ n1 : Nat, nxV zs p2 14 = (n1 : Int) := ⟨(nxV zs p2 14).toNat, by omega⟩
  rw [hn1e] at hn1 ⊢
  clear hP5 hs6 hf6
  go_wp2_with fail
  refine (l1Next_x base g a c zs _ 30 (by decide) (by decide) _ hP6.src).mono ?_
  rintro e w7 ⟨rfl, hs7, hf7⟩
  have hP7 := hP6.drawn hg hs7 hf7
  clear hP6 hs7 hf7
  by_cases h30 : nxV zs (nxS zs p2) 30 = 0
  · rw [h30]
    go_wp2_with fail
    refine (l1Next_x base g a c zs _ 2 (by decide) (by decide) _ hP7.src).mono ?_
    rintro e w8 ⟨rfl, hs8, hf8⟩
    have hP8 := hP7.drawn hg hs8 hf8
    have hy := nxV_in zs (nxS zs (nxS zs p2)) (n := 2) (by decide) (by decide)
    obtain ⟨y, hye⟩ : ∃ y : Nat, nxV zs (nxS zs (nxS zs p2)) 2 = (y : Int) := ⟨(nxV zs (nxS zs (nxS zs p2)) 2).toNat, by omega⟩
    rw [hye] at hy ⊢
    clear hP7 hs8 hf8
    have HC : Hid (ddC zs p p2 = (2048 - y, nxS zs (nxS zs (nxS zs p2)))) := by unfold ddC; rw [Hid, if_pos h30, hye, Int.toNat_natCast]
    generalize nxS zs (nxS zs (nxS zs p2)) = p3 at hP8 HC
    rw [HC.out] at HR2
    clear HC hye h30
    have hnn : (2048 : Int) - (y : Int) = ((2048 - y : Nat) : Int) := by omega
    obtain ⟨nn, hnne⟩ : ∃ nn, 2048 - y = nn := ⟨_, rfl⟩
    rw [hnne] at hnn
    simp only [hnne] at HR2
    have hnn5 : nn ≤ 2048 := by omega
    have hbase : base ≤ w.heap.size := by have := hlo0; omega
    go_wp2_with fail
    refine (l1DrawBlock_x base g a c zs p3 _ hP8.src).mono ?_
    rintro e w9 ⟨ub9, rfl, hD9⟩
    obtain ⟨gb0, bc0, rfl, hbc, hgb1, hgb2, hO9, hs9, hf9⟩ := hD9.out (by have := hP8.frm.size; omega)
    rw [dbl_length] at hO9 hbc
    have hI := hP8.block hg hs9 hf9 hgb1 hgb2 hO9 (dbl_length zs p3) hbc
    rw [dbl_length]
    clear hD9 hP8 hO9 hs9 hf9 hgb1 hgb2
    obtain ⟨s0, hs0⟩ : ∃ s0, (([] : List (Int × List Int)), dbl zs p3, adv zs p3 3) = s0 := ⟨_, rfl⟩
    have hI0 : DvI base g a c zs w o w3.heap.size o gb0 B (.slice da D.length dc) D bc0 (dlp zs B s0 0).2.1 (.slice none 0 0) (dlp zs B s0 0).1 (dlp zs B s0 0).2.2 w9 := by rw [← hs0]; exact hI
    rw [hs0] at HR2
    have HL0 : Hid (s0.1.length = 0) := by rw [← hs0]; rfl
    clear hI
    go_wp2
    go_loopw [6, 7] (fun bv i wr => ∃ (k gb bc : Nat) (cv : Value), k ≤ nn ∧ i = .int .i64 k ∧ bv = .slice (some ⟨gb, 0, none⟩) 128 bc ∧ DvI base g a c zs w o w3.heap.size o gb B (.slice da D.length dc) D bc (dlp zs B s0 k).2.1 cv (dlp zs B s0 k).1 (dlp zs B s0 k).2.2 wr) (fun _ i _ => nn - (intOf i).toNat)
    case atStart => exact ⟨0, gb0, bc0, _, Nat.zero_le _, rfl, rfl, hI0⟩
    case round =>
      obtain ⟨k, gb, bc, cv, hk, rfl, rfl, hI1⟩ := hrel
      clear hI0
      obtain ⟨hI1_w, rfl⟩ : ∃ wq, wq = wr := ⟨wr, rfl⟩
      by_cases hlt : k < nn
      · have hi : (k : Int) < (2048 - (y : Int)) := by omega
        have HS : Hid (dlp zs B s0 (k + 1) = dst zs B k (dlp zs B s0 k)) := rfl
        have hpl := dlp_len zs B s0 k
        rw [HL0.out, Nat.zero_add] at hpl
        generalize dlp zs B s0 k = sk at hI1 HS hpl
        obtain ⟨ps, b, q⟩ := sk
        simp only at hI1 hpl
        have hpl2 : ps.length < 1048576 := by omega
        have HPL : Hid (ps.length = k) := hpl
        clear hpl
        by_cases h14 : k < 14
        · have h14i : (k : Int) < 14 := by omega
          go_wp2_with fail
          refine (l1DrawBlock_x base g a c zs q _ hI1.src).mono ?_
          rintro e w10 ⟨u10, rfl, hD10⟩
          obtain ⟨gb2, bc2, rfl, hbc2, hq1, hq2, hO10, hs10, hf10⟩ := hD10.out (by have := hI1.frm.size; omega)
          rw [dbl_length] at hO10 hbc2
          have hI2 := hI1.redraw hg hs10 hf10 hq1 hq2 hO10 (dbl_length zs q) hbc2
          rw [dbl_length]
          clear hD10 hI1 hO10 hs10 hf10 hq1 hq2
          obtain ⟨z0, z1, z2⟩ := hI2.box.cells
          go_wp2_with fail
          refine (l1Next_x base g a c zs _ B (by omega) (by omega) _ hI2.src).mono ?_
          rintro e w11 ⟨rfl, hs11, hf11⟩
          have hI3 := hI2.drawn hg hs11 hf11
          clear hI2 z0 z1 z2 hs11 hf11
          go_wp2_with fail
          refine (l1Next_x base g a c zs _ 2 (by decide) (by decide) _ hI3.src).mono ?_
          rintro e hI4_w ⟨rfl, hs12, hf12⟩
          have hI4 := hI3.drawn hg hs12 hf12
          clear hI3 hs12 hf12
          by_cases h2 : nxV zs (nxS zs (adv zs q 3)) 2 = 0
          · rw [h2]
            go_wp2_with fail
            refine (l1Next_x base g a c zs _ 4 (by decide) (by decide) _ hI4.src).mono ?_
            rintro e hI5_w ⟨rfl, hs13, hf13⟩
            have hI5 := hI4.drawn hg hs13 hf13
            clear hI4 hs13 hf13
            have HS1 : Hid (dlp zs B s0 (k + 1) = (ps ++ [(nxV zs (nxS zs (nxS zs (adv zs q 3))) 4, (dbl zs q))], (dbl zs q), nxS zs (nxS zs (nxS zs (adv zs q 3))))) := by
              rw [Hid, HS.out]
              simp only [dst, h14, if_true, h2, if_true]
            generalize hbk : nxV zs (nxS zs (nxS zs (adv zs q 3))) 4 = bk at HS1 ⊢
            generalize hqq : nxS zs (nxS zs (nxS zs (adv zs q 3))) = qq at HS1 hI5
            clear hbk hqq
            obtain ⟨va, vc, rfl⟩ := hI5.cache.form
            have hd : (dbl zs q).length ≤ 1048576 := by rw [hI5.bl]; decide
            have hvb := hI5.blk.bts
            have hpS : ¬ (w.heap.size < o ∧ o ≠ o ∧ ¬ (w3.heap.size ≤ o ∧ o < o) ∧ o ≠ gb2) := fun e => e.2.1 rfl
            obtain ⟨wn, hwn⟩ : ∃ wn, hI5_w = wn := ⟨_, rfl⟩
            rw [hwn] at hI5 hvb ⊢
            have hS3 : ∀ k, wn.drew.heap.size ≤ k → w.heap.size < k ∧ k ≠ o ∧ ¬ (w3.heap.size ≤ k ∧ k < o) ∧ k ≠ gb2 := fun k hk => by have a1 := hI5.at1; have a2 := hI5.at2; simp at hk; omega
            have hP' : Box3 wn.drew o (.int .i64 B) (.slice da D.length dc) (.slice va ps.length vc) 25 := hI5.box
            have hR' : PRow (fun q => w.heap.size < q ∧ q ≠ o ∧ ¬ (w3.heap.size ≤ q ∧ q < o) ∧ q ≠ gb2) wn.drew (.slice va ps.length vc) ps := hI5.cache.below (Below.refl _ _).drew
            obtain ⟨z0, z1, z2⟩ := hI5.box.cells
            have HI : Hid _ := hI5
            clear hI5 hwn
            go_wp2_with fail
            go_region_law (first | (refine step_appendR (by rfl) _ _ (by rfl) bk (dbl zs q) rfl hR' k4 k1 k2 k3 hS3 (by rfl) ⟨_, by rfl, by rfl⟩ hpl2 ?_; intro v' w15 hR15 hF15; obtain ⟨va5, vn5, rfl⟩ := hR15.form_snoc; have hP15 : Box3 w15 o (.int .i64 B) (.slice da D.length dc) (.slice va ps.length vc) 25 := (hF15.block _ hP14.lt hpS).trans hP14; obtain ⟨r0, r1, r2⟩ := hP15.cells; have hfr5 := hP15.free) | (go_simp; go_at_call 43; refine (l1Copy_any _ (dbl zs q) _ ?_ hd).mono ?_; exact hvb.below (Below.refl _ _).drew; rintro e w14 ⟨na, nc, gn, rfl, k1, k2, k3, k4⟩; have hP14 := Box3.below hP' k4; have hpl := hP14.lt; obtain ⟨t0, t1, t2⟩ := hP14.cells))
            all_goals
              obtain ⟨e1, e2, e3⟩ := write_end hP15 hR15 hF15 k4 (Below.refl _ _) hpS
              have hI9 := HI.out.appended hg hbase e1 e2 e3
              clear hP15 hR15 hF15 k1 k2 k3 k4 hP14 hP' hR' t0 t1 t2 r0 r1 r2 hfr5 z0 z1 z2 e1 e2 e3 HI hvb
              go_wp2
              go_roundw
              case rel => exact ⟨k + 1, gb2, bc2, _, by omega, by go_num, rfl, by rw [HS1.out]; exact hI9⟩
              case measure => simp [intOf]; omega
          · have h2' : (nxV zs (nxS zs (adv zs q 3)) 2 == 0) = false := by simpa using h2
            have HS1 : Hid (dlp zs B s0 (k + 1) = (ps ++ [(nxV zs (adv zs q 3) B, (dbl zs q))], (dbl zs q), nxS zs (nxS zs (adv zs q 3)))) := by
              rw [Hid, HS.out]
              simp only [dst, h14, if_true, h2, if_false]
            generalize hbk : nxV zs (adv zs q 3) B = bk at HS1 ⊢
            generalize hqq : nxS zs (nxS zs (adv zs q 3)) = qq at HS1 hI4
            clear hbk hqq
            obtain ⟨va, vc, rfl⟩ := hI4.cache.form
            have hd : (dbl zs q).length ≤ 1048576 := by rw [hI4.bl]; decide
            have hvb := hI4.blk.bts
            have hpS : ¬ (w.heap.size < o ∧ o ≠ o ∧ ¬ (w3.heap.size ≤ o ∧ o < o) ∧ o ≠ gb2) := fun e => e.2.1 rfl
            obtain ⟨wn, hwn⟩ : ∃ wn, hI4_w = wn := ⟨_, rfl⟩
            rw [hwn] at hI4 hvb ⊢
            have hS3 : ∀ k, wn.drew.heap.size ≤ k → w.heap.size < k ∧ k ≠ o ∧ ¬ (w3.heap.size ≤ k ∧ k < o) ∧ k ≠ gb2 := fun k hk => by have a1 := hI4.at1; have a2 := hI4.at2; simp at hk; omega
            have hP' : Box3 wn.drew o (.int .i64 B) (.slice da D.length dc) (.slice va ps.length vc) 25 := hI4.box
            have hR' : PRow (fun q => w.heap.size < q ∧ q ≠ o ∧ ¬ (w3.heap.size ≤ q ∧ q < o) ∧ q ≠ gb2) wn.drew (.slice va ps.length vc) ps := hI4.cache.below (Below.refl _ _).drew
            obtain ⟨z0, z1, z2⟩ := hI4.box.cells
            have HI : Hid _ := hI4
            clear hI4 hwn
            go_wp2_with fail
            go_region_law (first | (refine step_appendR (by rfl) _ _ (by rfl) bk (dbl zs q) rfl hR' k4 k1 k2 k3 hS3 (by rfl) ⟨_, by rfl, by rfl⟩ hpl2 ?_; intro v' w15 hR15 hF15; obtain ⟨va5, vn5, rfl⟩ := hR15.form_snoc; have hP15 : Box3 w15 o (.int .i64 B) (.slice da D.length dc) (.slice va ps.length vc) 25 := (hF15.block _ hP14.lt hpS).trans hP14; obtain ⟨r0, r1, r2⟩ := hP15.cells; have hfr5 := hP15.free) | (go_simp; go_at_call 43; refine (l1Copy_any _ (dbl zs q) _ ?_ hd).mono ?_; exact hvb.below (Below.refl _ _).drew; rintro e w14 ⟨na, nc, gn, rfl, k1, k2, k3, k4⟩; have hP14 := Box3.below hP' k4; have hpl := hP14.lt; obtain ⟨t0, t1, t2⟩ := hP14.cells))
            all_goals
              obtain ⟨e1, e2, e3⟩ := write_end hP15 hR15 hF15 k4 (Below.refl _ _) hpS
              have hI9 := HI.out.appended hg hbase e1 e2 e3
              clear hP15 hR15 hF15 k1 k2 k3 k4 hP14 hP' hR' t0 t1 t2 r0 r1 r2 hfr5 z0 z1 z2 e1 e2 e3 HI hvb
              go_wp2
              go_roundw
              case rel => exact ⟨k + 1, gb2, bc2, _, by omega, by go_num, rfl, by rw [HS1.out]; exact hI9⟩
              case measure => simp [intOf]; omega
        · have h14i : ¬ (k : Int) < 14 := by omega
          obtain ⟨z0, z1, z2⟩ := hI1.box.cells
          go_wp2_with fail
          refine (l1Next_x base g a c zs _ B (by omega) (by omega) _ hI1.src).mono ?_
          rintro e w11 ⟨rfl, hs11, hf11⟩
          have hI3 := hI1.drawn hg hs11 hf11
          clear hI1 z0 z1 z2 hs11 hf11
          go_wp2_with fail
          refine (l1Next_x base g a c zs _ 2 (by decide) (by decide) _ hI3.src).mono ?_
          rintro e hI4_w ⟨rfl, hs12, hf12⟩
          have hI4 := hI3.drawn hg hs12 hf12
          clear hI3 hs12 hf12
          by_cases h2 : nxV zs (nxS zs (q)) 2 = 0
          · rw [h2]
            go_wp2_with fail
            refine (l1Next_x base g a c zs _ 4 (by decide) (by decide) _ hI4.src).mono ?_
            rintro e hI5_w ⟨rfl, hs13, hf13⟩
            have hI5 := hI4.drawn hg hs13 hf13
            clear hI4 hs13 hf13
            have HS1 : Hid (dlp zs B s0 (k + 1) = (ps ++ [(nxV zs (nxS zs (nxS zs (q))) 4, b)], b, nxS zs (nxS zs (nxS zs (q))))) := by
              rw [Hid, HS.out]
              simp only [dst, h14, if_false, h2, if_true]
            generalize hbk : nxV zs (nxS zs (nxS zs (q))) 4 = bk at HS1 ⊢
            generalize hqq : nxS zs (nxS zs (nxS zs (q))) = qq at HS1 hI5
            clear hbk hqq
            obtain ⟨va, vc, rfl⟩ := hI5.cache.form
            have hd : b.length ≤ 1048576 := by rw [hI5.bl]; decide
            have hvb := hI5.blk.bts
            have hpS : ¬ (w.heap.size < o ∧ o ≠ o ∧ ¬ (w3.heap.size ≤ o ∧ o < o) ∧ o ≠ gb) := fun e => e.2.1 rfl
            obtain ⟨wn, hwn⟩ : ∃ wn, hI5_w = wn := ⟨_, rfl⟩
            rw [hwn] at hI5 hvb ⊢
            have hS3 : ∀ k, wn.drew.heap.size ≤ k → w.heap.size < k ∧ k ≠ o ∧ ¬ (w3.heap.size ≤ k ∧ k < o) ∧ k ≠ gb := fun k hk => by have a1 := hI5.at1; have a2 := hI5.at2; simp at hk; omega
            have hP' : Box3 wn.drew o (.int .i64 B) (.slice da D.length dc) (.slice va ps.length vc) 25 := hI5.box
            have hR' : PRow (fun q => w.heap.size < q ∧ q ≠ o ∧ ¬ (w3.heap.size ≤ q ∧ q < o) ∧ q ≠ gb) wn.drew (.slice va ps.length vc) ps := hI5.cache.below (Below.refl _ _).drew
            obtain ⟨z0, z1, z2⟩ := hI5.box.cells
            have HI : Hid _ := hI5
            clear hI5 hwn
            go_wp2_with fail
            go_region_law (first | (refine step_appendR (by rfl) _ _ (by rfl) bk b rfl hR' k4 k1 k2 k3 hS3 (by rfl) ⟨_, by rfl, by rfl⟩ hpl2 ?_; intro v' w15 hR15 hF15; obtain ⟨va5, vn5, rfl⟩ := hR15.form_snoc; have hP15 : Box3 w15 o (.int .i64 B) (.slice da D.length dc) (.slice va ps.length vc) 25 := (hF15.block _ hP14.lt hpS).trans hP14; obtain ⟨r0, r1, r2⟩ := hP15.cells; have hfr5 := hP15.free) | (go_simp; go_at_call 43; refine (l1Copy_any _ b _ ?_ hd).mono ?_; exact hvb.below (Below.refl _ _).drew; rintro e w14 ⟨na, nc, gn, rfl, k1, k2, k3, k4⟩; have hP14 := Box3.below hP' k4; have hpl := hP14.lt; obtain ⟨t0, t1, t2⟩ := hP14.cells))
            all_goals
              obtain ⟨e1, e2, e3⟩ := write_end hP15 hR15 hF15 k4 (Below.refl _ _) hpS
              have hI9 := HI.out.appended hg hbase e1 e2 e3
              clear hP15 hR15 hF15 k1 k2 k3 k4 hP14 hP' hR' t0 t1 t2 r0 r1 r2 hfr5 z0 z1 z2 e1 e2 e3 HI hvb
              go_wp2
              go_roundw
              case rel => exact ⟨k + 1, gb, bc, _, by omega, by go_num, rfl, by rw [HS1.out]; exact hI9⟩
              case measure => simp [intOf]; omega
          · have h2' : (nxV zs (nxS zs (q)) 2 == 0) = false := by simpa using h2
            have HS1 : Hid (dlp zs B s0 (k + 1) = (ps ++ [(nxV zs (q) B, b)], b, nxS zs (nxS zs (q)))) := by
              rw [Hid, HS.out]
              simp only [dst, h14, if_false, h2, if_false]
            generalize hbk : nxV zs (q) B = bk at HS1 ⊢
            generalize hqq : nxS zs (nxS zs (q)) = qq at HS1 hI4
            clear hbk hqq
            obtain ⟨va, vc, rfl⟩ := hI4.cache.form
            have hd : b.length ≤ 1048576 := by rw [hI4.bl]; decide
            have hvb := hI4.blk.bts
            have hpS : ¬ (w.heap.size < o ∧ o ≠ o ∧ ¬ (w3.heap.size ≤ o ∧ o < o) ∧ o ≠ gb) := fun e => e.2.1 rfl
            obtain ⟨wn, hwn⟩ : ∃ wn, hI4_w = wn := ⟨_, rfl⟩
            rw [hwn] at hI4 hvb ⊢
            have hS3 : ∀ k, wn.drew.heap.size ≤ k → w.heap.size < k ∧ k ≠ o ∧ ¬ (w3.heap.size ≤ k ∧ k < o) ∧ k ≠ gb := fun k hk => by have a1 := hI4.at1; have a2 := hI4.at2; simp at hk; omega
            have hP' : Box3 wn.drew o (.int .i64 B) (.slice da D.length dc) (.slice va ps.length vc) 25 := hI4.box
            have hR' : PRow (fun q => w.heap.size < q ∧ q ≠ o ∧ ¬ (w3.heap.size ≤ q ∧ q < o) ∧ q ≠ gb) wn.drew (.slice va ps.length vc) ps := hI4.cache.below (Below.refl _ _).drew
            obtain ⟨z0, z1, z2⟩ := hI4.box.cells
            have HI : Hid _ := hI4
            clear hI4 hwn
            go_wp2_with fail
            go_region_law (first | (refine step_appendR (by rfl) _ _ (by rfl) bk b rfl hR' k4 k1 k2 k3 hS3 (by rfl) ⟨_, by rfl, by rfl⟩ hpl2 ?_; intro v' w15 hR15 hF15; obtain ⟨va5, vn5, rfl⟩ := hR15.form_snoc; have hP15 : Box3 w15 o (.int .i64 B) (.slice da D.length dc) (.slice va ps.length vc) 25 := (hF15.block _ hP14.lt hpS).trans hP14; obtain ⟨r0, r1, r2⟩ := hP15.cells; have hfr5 := hP15.free) | (go_simp; go_at_call 43; refine (l1Copy_any _ b _ ?_ hd).mono ?_; exact hvb.below (Below.refl _ _).drew; rintro e w14 ⟨na, nc, gn, rfl, k1, k2, k3, k4⟩; have hP14 := Box3.below hP' k4; have hpl := hP14.lt; obtain ⟨t0, t1, t2⟩ := hP14.cells))
            all_goals
              obtain ⟨e1, e2, e3⟩ := write_end hP15 hR15 hF15 k4 (Below.refl _ _) hpS
              have hI9 := HI.out.appended hg hbase e1 e2 e3
              clear hP15 hR15 hF15 k1 k2 k3 k4 hP14 hP' hR' t0 t1 t2 r0 r1 r2 hfr5 z0 z1 z2 e1 e2 e3 HI hvb
              go_wp2
              go_roundw
              case rel => exact ⟨k + 1, gb, bc, _, by omega, by go_num, rfl, by rw [HS1.out]; exact hI9⟩
              case measure => simp [intOf]; omega
      · have hi : ¬ (k : Int) < (2048 - (y : Int)) := by omega
        obtain rfl : k = nn := by omega
        obtain ⟨sk, HSK⟩ : ∃ sk, Hid (dlp zs B s0 k = sk) := ⟨_, rfl⟩
        have hpl := dlp_len zs B s0 k
        rw [HL0.out, Nat.zero_add] at hpl
        rw [HSK.out] at hI1 hpl
        rw [HSK.out] at HR2
        obtain ⟨ps, b, q⟩ := sk
        simp only at hI1 hpl
        have hpl2 : ps.length < 1048576 := by omega
        have HPL : Hid (ps.length = k) := hpl
        clear HSK hpl
        go_wp2_with fail
        refine (l1Next_x base g a c zs _ 6 (by decide) (by decide) _ hI1.src).mono ?_
        rintro e w20 ⟨rfl, hs20, hf20⟩
        have hI2 := hI1.drawn hg hs20 hf20
        clear hI1 hs20 hf20
        by_cases h6 : nxV zs q 6 = 0
        · rw [h6]
          go_wp2_with fail
          refine (l1Next_x base g a c zs _ 5 (by decide) (by decide) _ hI2.src).mono ?_
          rintro e hI3_w ⟨rfl, hs21, hf21⟩
          have hI3 := hI2.drawn hg hs21 hf21
          clear hI2 hs21 hf21
          have HR3 : Hid (ddR zs p = ((if nxV zs (nxS zs q) 5 = 0 then (B, D.drop 1, ps) else if nxV zs (nxS zs q) 5 = 1 then (B + 1, D, ps) else if nxV zs (nxS zs q) 5 = 2 then (B, D, ps ++ [(B, b)]) else if nxV zs (nxS zs q) 5 = 3 then (B, D, ps ++ [(-1, b)]) else (B, D, ps ++ [(0, b.drop 1)])), nxS zs (nxS zs q))) := by rw [Hid, HR2.out]; unfold spl; rw [if_pos h6]
          generalize nxV zs (nxS zs q) 5 = k5 at HR3 ⊢
          generalize nxS zs (nxS zs q) = q5 at HR3 hI3
          have a1 := hI3.at1
          have a2 := hI3.at2
          by_cases h50 : k5 = 0
          · subst h50
            have HRV : Hid (ddR zs p = ((B, D.drop 1, ps), q5)) := by rw [Hid, HR3.out, if_pos rfl]
            obtain ⟨_, _, he, hsd⟩ := hI3.disk.shape
            simp only [Value.slice.injEq, true_and] at he
            obtain ⟨rfl, rfl⟩ := he
            obtain ⟨db, doff, rfl, -⟩ := hsd (by have := HDL.out.1; omega)
            obtain ⟨va, vc, rfl⟩ := hI3.cache.form
            obtain ⟨dl, hdl⟩ : ∃ dl, D.length = dl + 1 := ⟨D.length - 1, by have := HDL.out.1; omega⟩
            obtain ⟨dcl, hdcl⟩ : ∃ dcl, dc = dcl + 1 := ⟨dc - 1, by have := HDL.out; omega⟩
            have hdd : dl ≤ dcl ∧ 0 < dl := by have := HDL.out; omega
            have HDD : Hid (D.length = dl + 1) := hdl
            subst hdcl
            rw [hdl] at hI3 ⊢
            clear hdl
            have hI9 := hI3.boxed hg hbase 1 (.slice (some ⟨db, doff + 1, none⟩) dl dcl)
            have hres := hI9.2.1
            have hend := fun x y z => DvR.mk3 (B := B) (D := D.drop 1) (l := dl) hI9.1 hg (by rw [List.length_drop, HDD.out]; omega) (hI9.2.2.1.drop1 (by omega) dl dcl rfl) (by rw [List.length_drop, HDD.out]; omega) rfl hI9.2.2.2.1 (fun q e => by omega) a2.1 hbase hI9.2.2.2.2 x y z
            obtain ⟨z0, z1, z2⟩ := hI3.box.cells
            have zf := hI3.box.free
            clear hI3 hI9 hsd
            obtain ⟨q0, q1, q2⟩ := hres.cells
            have qf := hres.free
            have e0 := fun x => World.cell?_setCell_same (hI3_w.setCell ⟨o, 1, none⟩ (.slice (some ⟨db, doff + 1, none⟩) dl dcl)) ⟨w.heap.size, 0, none⟩ x q0
            have e1 := fun x y => World.cell?_setCell_same ((hI3_w.setCell ⟨o, 1, none⟩ (.slice (some ⟨db, doff + 1, none⟩) dl dcl)).setCell ⟨w.heap.size, 0, none⟩ x) ⟨w.heap.size, 1, none⟩ y ((set_ne _ _ _ _ _ (by decide)).trans q1)
            have e2 := fun x y z => World.cell?_setCell_same (((hI3_w.setCell ⟨o, 1, none⟩ (.slice (some ⟨db, doff + 1, none⟩) dl dcl)).setCell ⟨w.heap.size, 0, none⟩ x).setCell ⟨w.heap.size, 1, none⟩ y) ⟨w.heap.size, 2, none⟩ z (((set_ne _ _ _ _ _ (by decide)).trans (set_ne _ _ _ _ _ (by decide))).trans q2)
            go_wp2
            refine bodyPost_ret (v := .agg #[.int .i64 (B), .slice (some ⟨db, doff + 1, none⟩) (dl) (dcl), .slice va (ps.length) (vc)]) (by simp [results, Try.results37, go_sem, e0, e1, e2]) rfl ?_
            rw [HRV.out]
            exact ⟨_, rfl, hend _ _ _⟩
          · have h50' : (k5 == 0) = false := by simpa using h50
            by_cases h51 : k5 = 1
            · subst h51
              have HRV : Hid (ddR zs p = ((B + 1, D, ps), q5)) := by rw [Hid, HR3.out, if_neg (by decide), if_pos rfl]
              obtain ⟨va, vc, rfl⟩ := hI3.cache.form
              have hI9 := hI3.boxed hg hbase 0 (.int .i64 (B + 1))
              have hres := hI9.2.1
              have hend := fun x y z => DvR.mk (B := B + 1) hI9.1 hg hI9.2.2.1 HDL.out.2 hI9.2.2.2.1 (fun q e => by omega) a2.1 hbase hI9.2.2.2.2 x y z
              obtain ⟨z0, z1, z2⟩ := hI3.box.cells
              have zf := hI3.box.free
              clear hI3 hI9
              obtain ⟨q0, q1, q2⟩ := hres.cells
              have qf := hres.free
              have e0 := fun x => World.cell?_setCell_same (hI3_w.setCell ⟨o, 0, none⟩ (.int .i64 (B + 1))) ⟨w.heap.size, 0, none⟩ x q0
              have e1 := fun x y => World.cell?_setCell_same ((hI3_w.setCell ⟨o, 0, none⟩ (.int .i64 (B + 1))).setCell ⟨w.heap.size, 0, none⟩ x) ⟨w.heap.size, 1, none⟩ y ((set_ne _ _ _ _ _ (by decide)).trans q1)
              have e2 := fun x y z => World.cell?_setCell_same (((hI3_w.setCell ⟨o, 0, none⟩ (.int .i64 (B + 1))).setCell ⟨w.heap.size, 0, none⟩ x).setCell ⟨w.heap.size, 1, none⟩ y) ⟨w.heap.size, 2, none⟩ z (((set_ne _ _ _ _ _ (by decide)).trans (set_ne _ _ _ _ _ (by decide))).trans q2)
              go_wp2
              refine bodyPost_ret (v := .agg #[.int .i64 (B + 1), .slice da (D.length) (dc), .slice va (ps.length) (vc)]) (by simp [results, Try.results37, go_sem, e0, e1, e2]) rfl ?_
              rw [HRV.out]
              exact ⟨_, rfl, hend _ _ _⟩
            · have h51' : (k5 == 1) = false := by simpa using h51
              by_cases h52 : k5 = 2
              · subst h52
                have HRV : Hid (ddR zs p = ((B, D, ps ++ [(B, b)]), q5)) := by rw [Hid, HR3.out, if_neg (by decide), if_neg (by decide), if_pos rfl]
                obtain ⟨va, vc, rfl⟩ := hI3.cache.form
                have hd : b.length ≤ 1048576 := by rw [hI3.bl]; decide
                have hvb := hI3.blk.bts
                have hpS : ¬ (w.heap.size < o ∧ o ≠ o ∧ ¬ (w3.heap.size ≤ o ∧ o < o) ∧ o ≠ gb) := fun e => e.2.1 rfl
                obtain ⟨wn, hwn⟩ : ∃ wn, hI3_w = wn := ⟨_, rfl⟩
                rw [hwn] at hI3 hvb ⊢
                have hS3 : ∀ k, wn.drew.heap.size ≤ k → w.heap.size < k ∧ k ≠ o ∧ ¬ (w3.heap.size ≤ k ∧ k < o) ∧ k ≠ gb := fun k hk => by have a1 := hI3.at1; have a2 := hI3.at2; simp at hk; omega
                have hP' : Box3 wn.drew o (.int .i64 B) (.slice da D.length dc) (.slice va ps.length vc) 25 := hI3.box
                have hR' : PRow (fun q => w.heap.size < q ∧ q ≠ o ∧ ¬ (w3.heap.size ≤ q ∧ q < o) ∧ q ≠ gb) wn.drew (.slice va ps.length vc) ps := hI3.cache.below (Below.refl _ _).drew
                obtain ⟨z0, z1, z2⟩ := hI3.box.cells
                have HI : Hid _ := hI3
                clear hI3 hwn
                go_wp2_with fail
                go_region_law (first | (refine step_appendR (by rfl) _ _ (by rfl) B b rfl hR' k4 k1 k2 k3 hS3 (by rfl) ⟨_, by rfl, by rfl⟩ hpl2 ?_; intro v' w15 hR15 hF15; obtain ⟨va5, vn5, rfl⟩ := hR15.form_snoc; have hP15 : Box3 w15 o (.int .i64 B) (.slice da D.length dc) (.slice va ps.length vc) 25 := (hF15.block _ hP14.lt hpS).trans hP14; obtain ⟨r0, r1, r2⟩ := hP15.cells; have hfr5 := hP15.free) | (go_simp; go_at_call 43; refine (l1Copy_any _ b _ ?_ hd).mono ?_; exact hvb.below (Below.refl _ _).drew; rintro e w14 ⟨na, nc, gn, rfl, k1, k2, k3, k4⟩; have hP14 := Box3.below hP' k4; have hpl := hP14.lt; obtain ⟨t0, t1, t2⟩ := hP14.cells))
                all_goals
                  obtain ⟨e1, e2, e3⟩ := write_end hP15 hR15 hF15 k4 (Below.refl _ _) hpS
                  have hI9 := HI.out.appended hg hbase e1 e2 e3
                  clear hP15 hR15 hF15 k1 k2 k3 k4 hP14 hP' hR' t0 t1 t2 r0 r1 r2 hfr5 z0 z1 z2 e1 e2 e3 HI hvb
                  have hres := hI9.res
                  have hend := fun x y z => DvR.mk2 (B := B) (m := ps.length + 1) hI9.src hg hI9.disk HDL.out.2 (by simp) hI9.cache (fun q e => by omega) a2.1 hbase hI9.frm x y z
                  obtain ⟨z0, z1, z2⟩ := hI9.box.cells
                  clear hI9
                  obtain ⟨q0, q1, q2⟩ := hres.cells
                  have qf := hres.free
                  have e0 := fun x => World.cell?_setCell_same (w15.setCell ⟨o, 2, none⟩ (.slice va5 (ps.length + 1) vn5)) ⟨w.heap.size, 0, none⟩ x q0
                  have e1 := fun x y => World.cell?_setCell_same ((w15.setCell ⟨o, 2, none⟩ (.slice va5 (ps.length + 1) vn5)).setCell ⟨w.heap.size, 0, none⟩ x) ⟨w.heap.size, 1, none⟩ y ((set_ne _ _ _ _ _ (by decide)).trans q1)
                  have e2 := fun x y z => World.cell?_setCell_same (((w15.setCell ⟨o, 2, none⟩ (.slice va5 (ps.length + 1) vn5)).setCell ⟨w.heap.size, 0, none⟩ x).setCell ⟨w.heap.size, 1, none⟩ y) ⟨w.heap.size, 2, none⟩ z (((set_ne _ _ _ _ _ (by decide)).trans (set_ne _ _ _ _ _ (by decide))).trans q2)
                  go_wp2
                  refine bodyPost_ret (v := .agg #[.int .i64 (B), .slice da (D.length) (dc), .slice va5 (ps.length + 1) (vn5)]) (by simp [results, Try.results37, go_sem, e0, e1, e2]) rfl ?_
                  rw [HRV.out]
                  exact ⟨_, rfl, hend _ _ _⟩
              · have h52' : (k5 == 2) = false := by simpa using h52
                by_cases h53 : k5 = 3
                · subst h53
                  have HRV : Hid (ddR zs p = ((B, D, ps ++ [((-1), b)]), q5)) := by rw [Hid, HR3.out, if_neg (by decide), if_neg (by decide), if_neg (by decide), if_pos rfl]
                  obtain ⟨va, vc, rfl⟩ := hI3.cache.form
                  have hd : b.length ≤ 1048576 := by rw [hI3.bl]; decide
                  have hvb := hI3.blk.bts
                  have hpS : ¬ (w.heap.size < o ∧ o ≠ o ∧ ¬ (w3.heap.size ≤ o ∧ o < o) ∧ o ≠ gb) := fun e => e.2.1 rfl
                  obtain ⟨wn, hwn⟩ : ∃ wn, hI3_w = wn := ⟨_, rfl⟩
                  rw [hwn] at hI3 hvb ⊢
                  have hS3 : ∀ k, wn.drew.heap.size ≤ k → w.heap.size < k ∧ k ≠ o ∧ ¬ (w3.heap.size ≤ k ∧ k < o) ∧ k ≠ gb := fun k hk => by have a1 := hI3.at1; have a2 := hI3.at2; simp at hk; omega
                  have hP' : Box3 wn.drew o (.int .i64 B) (.slice da D.length dc) (.slice va ps.length vc) 25 := hI3.box
                  have hR' : PRow (fun q => w.heap.size < q ∧ q ≠ o ∧ ¬ (w3.heap.size ≤ q ∧ q < o) ∧ q ≠ gb) wn.drew (.slice va ps.length vc) ps := hI3.cache.below (Below.refl _ _).drew
                  obtain ⟨z0, z1, z2⟩ := hI3.box.cells
                  have HI : Hid _ := hI3
                  clear hI3 hwn
                  go_wp2_with fail
                  go_region_law (first | (refine step_appendR (by rfl) _ _ (by rfl) (-1) b rfl hR' k4 k1 k2 k3 hS3 (by rfl) ⟨_, by rfl, by rfl⟩ hpl2 ?_; intro v' w15 hR15 hF15; obtain ⟨va5, vn5, rfl⟩ := hR15.form_snoc; have hP15 : Box3 w15 o (.int .i64 B) (.slice da D.length dc) (.slice va ps.length vc) 25 := (hF15.block _ hP14.lt hpS).trans hP14; obtain ⟨r0, r1, r2⟩ := hP15.cells; have hfr5 := hP15.free) | (go_simp; go_at_call 43; refine (l1Copy_any _ b _ ?_ hd).mono ?_; exact hvb.below (Below.refl _ _).drew; rintro e w14 ⟨na, nc, gn, rfl, k1, k2, k3, k4⟩; have hP14 := Box3.below hP' k4; have hpl := hP14.lt; obtain ⟨t0, t1, t2⟩ := hP14.cells))
                  all_goals
                    obtain ⟨e1, e2, e3⟩ := write_end hP15 hR15 hF15 k4 (Below.refl _ _) hpS
                    have hI9 := HI.out.appended hg hbase e1 e2 e3
                    clear hP15 hR15 hF15 k1 k2 k3 k4 hP14 hP' hR' t0 t1 t2 r0 r1 r2 hfr5 z0 z1 z2 e1 e2 e3 HI hvb
                    have hres := hI9.res
                    have hend := fun x y z => DvR.mk2 (B := B) (m := ps.length + 1) hI9.src hg hI9.disk HDL.out.2 (by simp) hI9.cache (fun q e => by omega) a2.1 hbase hI9.frm x y z
                    obtain ⟨z0, z1, z2⟩ := hI9.box.cells
                    clear hI9
                    obtain ⟨q0, q1, q2⟩ := hres.cells
                    have qf := hres.free
                    have e0 := fun x => World.cell?_setCell_same (w15.setCell ⟨o, 2, none⟩ (.slice va5 (ps.length + 1) vn5)) ⟨w.heap.size, 0, none⟩ x q0
                    have e1 := fun x y => World.cell?_setCell_same ((w15.setCell ⟨o, 2, none⟩ (.slice va5 (ps.length + 1) vn5)).setCell ⟨w.heap.size, 0, none⟩ x) ⟨w.heap.size, 1, none⟩ y ((set_ne _ _ _ _ _ (by decide)).trans q1)
                    have e2 := fun x y z => World.cell?_setCell_same (((w15.setCell ⟨o, 2, none⟩ (.slice va5 (ps.length + 1) vn5)).setCell ⟨w.heap.size, 0, none⟩ x).setCell ⟨w.heap.size, 1, none⟩ y) ⟨w.heap.size, 2, none⟩ z (((set_ne _ _ _ _ _ (by decide)).trans (set_ne _ _ _ _ _ (by decide))).trans q2)
                    go_wp2
                    refine bodyPost_ret (v := .agg #[.int .i64 (B), .slice da (D.length) (dc), .slice va5 (ps.length + 1) (vn5)]) (by simp [results, Try.results37, go_sem, e0, e1, e2]) rfl ?_
                    rw [HRV.out]
                    exact ⟨_, rfl, hend _ _ _⟩
                · have h53' : (k5 == 3) = false := by simpa using h53
                  have HRV : Hid (ddR zs p = ((B, D, ps ++ [(0, b.drop 1)]), q5)) := by rw [Hid, HR3.out, if_neg h50, if_neg h51, if_neg h52, if_neg h53]
                  obtain ⟨va, vc, rfl⟩ := hI3.cache.form
                  have hbl := hI3.bl
                  have hbc := hI3.cap
                  obtain ⟨bcl, hbcl⟩ : ∃ bcl, bc = bcl + 1 := ⟨bc - 1, by omega⟩
                  subst hbcl
                  have hw4 := hI3.blk.drop1 (by decide) 127 bcl rfl
                  have hb127 : (b.drop 1).length = 127 := by rw [List.length_drop, hbl]
                  have hpS : ¬ (w.heap.size < o ∧ o ≠ o ∧ ¬ (w3.heap.size ≤ o ∧ o < o) ∧ o ≠ gb) := fun e => e.2.1 rfl
                  have hgS : ¬ (w.heap.size < gb ∧ gb ≠ o ∧ ¬ (w3.heap.size ≤ gb ∧ gb < o) ∧ gb ≠ gb) := fun e => e.2.2.2 rfl
                  obtain ⟨wn, hwn⟩ : ∃ wn, hI3_w = wn := ⟨_, rfl⟩
                  rw [hwn] at hI3 hw4 ⊢
                  have hS3 : ∀ k, wn.drew.heap.size ≤ k → w.heap.size < k ∧ k ≠ o ∧ ¬ (w3.heap.size ≤ k ∧ k < o) ∧ k ≠ gb := fun k hk => by have a1 := hI3.at1; have a2 := hI3.at2; simp at hk; omega
                  have hP' : Box3 wn.drew o (.int .i64 B) (.slice da D.length dc) (.slice va ps.length vc) 25 := hI3.box
                  have hR' : PRow (fun q => w.heap.size < q ∧ q ≠ o ∧ ¬ (w3.heap.size ≤ q ∧ q < o) ∧ q ≠ gb) wn.drew (.slice va ps.length vc) ps := hI3.cache.below (Below.refl _ _).drew
                  have hw5 : Own8 gb (gb + 1) wn.drew (.slice (some ⟨gb, 1, none⟩) 127 bcl) (b.drop 1) := hw4.below (Below.refl _ _).drew
                  have hgb2 : gb < wn.drew.heap.size := hI3.at1.2.1
                  obtain ⟨z0, z1, z2⟩ := hI3.box.cells
                  have HI : Hid _ := hI3
                  have HBL : Hid (b.length = 128) := hbl
                  clear hI3 hwn hbl hw4
                  have hpS2 : ¬ ((w.heap.size < o ∧ o ≠ o ∧ ¬ (w3.heap.size ≤ o ∧ o < o) ∧ o ≠ gb) ∨ o = gb) := by omega
                  have a3 := HI.out.at1
                  have a4 := HI.out.at2
                  have hbc0 : ¬ bcl = 0 := by omega
                  go_wp2_with fail
                  go_region_law (first | (refine step_appendX (by rfl) _ _ (by rfl) 0 (b.drop 1) hb127 hR' hgS hgb2 hw5 hS3 (by rfl) ⟨_, by rfl, by rfl⟩ hpl2 ?_; intro v' w15 hR15 hF15; obtain ⟨va5, vn5, rfl⟩ := hR15.form_snoc; have hP15 : Box3 w15 o (.int .i64 B) (.slice da D.length dc) (.slice va ps.length vc) 25 := (hF15.block _ hP'.lt hpS).trans hP'; obtain ⟨r0, r1, r2⟩ := hP15.cells; have hfr5 := hP15.free))
                  all_goals
                    obtain ⟨e1, e2, e3⟩ := write_end (w := wn) (w1 := wn) (w2 := wn.drew) hP15 hR15 (hF15.wider fun k e => .inl e) (Below.refl _ _) (Below.refl _ _) hpS2
                    have hI := HI.out
                    have hres := (e3.block _ hI.res.lt (by omega)).trans hI.res
                    have hend := fun x y z => DvR.mk2 (B := B) (m := ps.length + 1) (hI.src.frm e3 (by omega) (fun q e => by omega)) hg (hI.disk.kept e3.size (fun q q1 q2 q3 => e3.block q q3 (by omega))) HDL.out.2 (by simp) e2 (fun q e => by omega) a4.1 hbase (hI.frm.trans (e3.mono fun k _ e => .inr (by omega))) x y z
                    have hres : Box3 _ w.heap.size (.int .i64 0) (.slice none 0 0) (.slice none 0 0) 25 := hres
                    clear hP15 hR15 hF15 hP' hR' r0 r1 r2 hfr5 z0 z1 z2 e2 e3 HI hI hw5
                    obtain ⟨z0, z1, z2⟩ := e1.cells
                    clear e1
                    obtain ⟨q0, q1, q2⟩ := hres.cells
                    have qf := hres.free
                    have e0 := fun x => World.cell?_setCell_same (w15.setCell ⟨o, 2, none⟩ (.slice va5 (ps.length + 1) vn5)) ⟨w.heap.size, 0, none⟩ x q0
                    have e1 := fun x y => World.cell?_setCell_same ((w15.setCell ⟨o, 2, none⟩ (.slice va5 (ps.length + 1) vn5)).setCell ⟨w.heap.size, 0, none⟩ x) ⟨w.heap.size, 1, none⟩ y ((set_ne _ _ _ _ _ (by decide)).trans q1)
                    have e2 := fun x y z => World.cell?_setCell_same (((w15.setCell ⟨o, 2, none⟩ (.slice va5 (ps.length + 1) vn5)).setCell ⟨w.heap.size, 0, none⟩ x).setCell ⟨w.heap.size, 1, none⟩ y) ⟨w.heap.size, 2, none⟩ z (((set_ne _ _ _ _ _ (by decide)).trans (set_ne _ _ _ _ _ (by decide))).trans q2)
                    go_wp2
                    refine bodyPost_ret (v := .agg #[.int .i64 (B), .slice da (D.length) (dc), .slice va5 (ps.length + 1) (vn5)]) (by simp [results, Try.results37, go_sem, e0, e1, e2]) rfl ?_
                    rw [HRV.out]
                    exact ⟨_, rfl, hend _ _ _⟩
        · have h6' : (nxV zs q 6 == 0) = false := by simpa using h6
          have HRV : Hid (ddR zs p = ((B, D, ps), nxS zs q)) := by rw [Hid, HR2.out]; unfold spl; rw [if_neg h6]
          obtain ⟨va, vc, rfl⟩ := hI2.cache.form
          have hres := hI2.res
          have a2 := hI2.at2
          have hend := fun x y z => DvR.mk (B := B) hI2.src hg hI2.disk HDL.out.2 hI2.cache (fun q e => by omega) a2.1 hbase hI2.frm x y z
          obtain ⟨z0, z1, z2⟩ := hI2.box.cells
          clear hI2
          obtain ⟨q0, q1, q2⟩ := hres.cells
          have qf := hres.free
          have e0 := fun x => World.cell?_setCell_same (w20) ⟨w.heap.size, 0, none⟩ x q0
          have e1 := fun x y => World.cell?_setCell_same ((w20).setCell ⟨w.heap.size, 0, none⟩ x) ⟨w.heap.size, 1, none⟩ y ((set_ne _ _ _ _ _ (by decide)).trans q1)
          have e2 := fun x y z => World.cell?_setCell_same (((w20).setCell ⟨w.heap.size, 0, none⟩ x).setCell ⟨w.heap.size, 1, none⟩ y) ⟨w.heap.size, 2, none⟩ z (((set_ne _ _ _ _ _ (by decide)).trans (set_ne _ _ _ _ _ (by decide))).trans q2)
          go_wp2
          refine bodyPost_ret (v := .agg #[.int .i64 (B), .slice da (D.length) (dc), .slice va (ps.length) (vc)]) (by simp [results, Try.results37, go_sem, e0, e1, e2]) rfl ?_
          rw [HRV.out]
          exact ⟨_, rfl, hend _ _ _⟩
  · have h30' : (nxV zs (nxS zs p2) 30 == 0) = false := by simpa using h30
    have HC : Hid (ddC zs p p2 = (n1, nxS zs (nxS zs p2))) := by unfold ddC; rw [Hid, if_neg h30, hn1e, Int.toNat_natCast]
    generalize nxS zs (nxS zs p2) = p3 at hP7 HC
    rw [HC.out] at HR2
    simp only at HR2
    clear HC
    have hbase : base ≤ w.heap.size := by have := hlo0; omega
    go_wp2_with fail
    refine (l1DrawBlock_x base g a c zs p3 _ hP7.src).mono ?_
    rintro e w9 ⟨ub9, rfl, hD9⟩
    obtain ⟨gb0, bc0, rfl, hbc, hgb1, hgb2, hO9, hs9, hf9⟩ := hD9.out (by have := hP7.frm.size; omega)
    rw [dbl_length] at hO9 hbc
    have hI := hP7.block hg hs9 hf9 hgb1 hgb2 hO9 (dbl_length zs p3) hbc
    rw [dbl_length]
    clear hD9 hP7 hO9 hs9 hf9 hgb1 hgb2
    obtain ⟨s0, hs0⟩ : ∃ s0, (([] : List (Int × List Int)), dbl zs p3, adv zs p3 3) = s0 := ⟨_, rfl⟩
    have hI0 : DvI base g a c zs w o w3.heap.size o gb0 B (.slice da D.length dc) D bc0 (dlp zs B s0 0).2.1 (.slice none 0 0) (dlp zs B s0 0).1 (dlp zs B s0 0).2.2 w9 := by rw [← hs0]; exact hI
    rw [hs0] at HR2
    have HL0 : Hid (s0.1.length = 0) := by rw [← hs0]; rfl
    clear hI
    go_wp2
    go_loopw [6, 7] (fun bv i wr => ∃ (k gb bc : Nat) (cv : Value), k ≤ n1 ∧ i = .int .i64 k ∧ bv = .slice (some ⟨gb, 0, none⟩) 128 bc ∧ DvI base g a c zs w o w3.heap.size o gb B (.slice da D.length dc) D bc (dlp zs B s0 k).2.1 cv (dlp zs B s0 k).1 (dlp zs B s0 k).2.2 wr) (fun _ i _ => n1 - (intOf i).toNat)
    case atStart => exact ⟨0, gb0, bc0, _, Nat.zero_le _, rfl, rfl, hI0⟩
    case round =>
      obtain ⟨k, gb, bc, cv, hk, rfl, rfl, hI1⟩ := hrel
      clear hI0
      obtain ⟨hI1_w, rfl⟩ : ∃ wq, wq = wr := ⟨wr, rfl⟩
      by_cases hlt : k < n1
      · have hi : (k : Int) < (n1 : Int) := by omega
        have HS : Hid (dlp zs B s0 (k + 1) = dst zs B k (dlp zs B s0 k)) := rfl
        have hpl := dlp_len zs B s0 k
        rw [HL0.out, Nat.zero_add] at hpl
        generalize dlp zs B s0 k = sk at hI1 HS hpl
        obtain ⟨ps, b, q⟩ := sk
        simp only at hI1 hpl
        have hpl2 : ps.length < 1048576 := by omega
        have HPL : Hid (ps.length = k) := hpl
        clear hpl
        by_cases h14 : k < 14
        · have h14i : (k : Int) < 14 := by omega
          go_wp2_with fail
          refine (l1DrawBlock_x base g a c zs q _ hI1.src).mono ?_
          rintro e w10 ⟨u10, rfl, hD10⟩
          obtain ⟨gb2, bc2, rfl, hbc2, hq1, hq2, hO10, hs10, hf10⟩ := hD10.out (by have := hI1.frm.size; omega)
          rw [dbl_length] at hO10 hbc2
          have hI2 := hI1.redraw hg hs10 hf10 hq1 hq2 hO10 (dbl_length zs q) hbc2
          rw [dbl_length]
          clear hD10 hI1 hO10 hs10 hf10 hq1 hq2
          obtain ⟨z0, z1, z2⟩ := hI2.box.cells
          go_wp2_with fail
          refine (l1Next_x base g a c zs _ B (by omega) (by omega) _ hI2.src).mono ?_
          rintro e w11 ⟨rfl, hs11, hf11⟩
          have hI3 := hI2.drawn hg hs11 hf11
          clear hI2 z0 z1 z2 hs11 hf11
          go_wp2_with fail
          refine (l1Next_x base g a c zs _ 2 (by decide) (by decide) _ hI3.src).mono ?_
          rintro e hI4_w ⟨rfl, hs12, hf12⟩
          have hI4 := hI3.drawn hg hs12 hf12
          clear hI3 hs12 hf12
          by_cases h2 : nxV zs (nxS zs (adv zs q 3)) 2 = 0
          · rw [h2]
            go_wp2_with fail
            refine (l1Next_x base g a c zs _ 4 (by decide) (by decide) _ hI4.src).mono ?_
            rintro e hI5_w ⟨rfl, hs13, hf13⟩
            have hI5 := hI4.drawn hg hs13 hf13
            clear hI4 hs13 hf13
            have HS1 : Hid (dlp zs B s0 (k + 1) = (ps ++ [(nxV zs (nxS zs (nxS zs (adv zs q 3))) 4, (dbl zs q))], (dbl zs q), nxS zs (nxS zs (nxS zs (adv zs q 3))))) := by
              rw [Hid, HS.out]
              simp only [dst, h14, if_true, h2, if_true]
            generalize hbk : nxV zs (nxS zs (nxS zs (adv zs q 3))) 4 = bk at HS1 ⊢
            generalize hqq : nxS zs (nxS zs (nxS zs (adv zs q 3))) = qq at HS1 hI5
            clear hbk hqq
            obtain ⟨va, vc, rfl⟩ := hI5.cache.form
            have hd : (dbl zs q).length ≤ 1048576 := by rw [hI5.bl]; decide
            have hvb := hI5.blk.bts
            have hpS : ¬ (w.heap.size < o ∧ o ≠ o ∧ ¬ (w3.heap.size ≤ o ∧ o < o) ∧ o ≠ gb2) := fun e => e.2.1 rfl
            obtain ⟨wn, hwn⟩ : ∃ wn, hI5_w = wn := ⟨_, rfl⟩
            rw [hwn] at hI5 hvb ⊢
            have hS3 : ∀ k, wn.drew.heap.size ≤ k → w.heap.size < k ∧ k ≠ o ∧ ¬ (w3.heap.size ≤ k ∧ k < o) ∧ k ≠ gb2 := fun k hk => by have a1 := hI5.at1; have a2 := hI5.at2; simp at hk; omega
            have hP' : Box3 wn.drew o (.int .i64 B) (.slice da D.length dc) (.slice va ps.length vc) 25 := hI5.box
            have hR' : PRow (fun q => w.heap.size < q ∧ q ≠ o ∧ ¬ (w3.heap.size ≤ q ∧ q < o) ∧ q ≠ gb2) wn.drew (.slice va ps.length vc) ps := hI5.cache.below (Below.refl _ _).drew
            obtain ⟨z0, z1, z2⟩ := hI5.box.cells
            have HI : Hid _ := hI5
            clear hI5 hwn
            go_wp2_with fail
            go_region_law (first | (refine step_appendR (by rfl) _ _ (by rfl) bk (dbl zs q) rfl hR' k4 k1 k2 k3 hS3 (by rfl) ⟨_, by rfl, by rfl⟩ hpl2 ?_; intro v' w15 hR15 hF15; obtain ⟨va5, vn5, rfl⟩ := hR15.form_snoc; have hP15 : Box3 w15 o (.int .i64 B) (.slice da D.length dc) (.slice va ps.length vc) 25 := (hF15.block _ hP14.lt hpS).trans hP14; obtain ⟨r0, r1, r2⟩ := hP15.cells; have hfr5 := hP15.free) | (go_simp; go_at_call 43; refine (l1Copy_any _ (dbl zs q) _ ?_ hd).mono ?_; exact hvb.below (Below.refl _ _).drew; rintro e w14 ⟨na, nc, gn, rfl, k1, k2, k3, k4⟩; have hP14 := Box3.below hP' k4; have hpl := hP14.lt; obtain ⟨t0, t1, t2⟩ := hP14.cells))
            all_goals
              obtain ⟨e1, e2, e3⟩ := write_end hP15 hR15 hF15 k4 (Below.refl _ _) hpS
              have hI9 := HI.out.appended hg hbase e1 e2 e3
              clear hP15 hR15 hF15 k1 k2 k3 k4 hP14 hP' hR' t0 t1 t2 r0 r1 r2 hfr5 z0 z1 z2 e1 e2 e3 HI hvb
              go_wp2
              go_roundw
              case rel => exact ⟨k + 1, gb2, bc2, _, by omega, by go_num, rfl, by rw [HS1.out]; exact hI9⟩
              case measure => simp [intOf]; omega
          · have h2' : (nxV zs (nxS zs (adv zs q 3)) 2 == 0) = false := by simpa using h2
            have HS1 : Hid (dlp zs B s0 (k + 1) = (ps ++ [(nxV zs (adv zs q 3) B, (dbl zs q))], (dbl zs q), nxS zs (nxS zs (adv zs q 3)))) := by
              rw [Hid, HS.out]
              simp only [dst, h14, if_true, h2, if_false]
            generalize hbk : nxV zs (adv zs q 3) B = bk at HS1 ⊢
            generalize hqq : nxS zs (nxS zs (adv zs q 3)) = qq at HS1 hI4
            clear hbk hqq
            obtain ⟨va, vc, rfl⟩ := hI4.cache.form
            have hd : (dbl zs q).length ≤ 1048576 := by rw [hI4.bl]; decide
            have hvb := hI4.blk.bts
            have hpS : ¬ (w.heap.size < o ∧ o ≠ o ∧ ¬ (w3.heap.size ≤ o ∧ o < o) ∧ o ≠ gb2) := fun e => e.2.1 rfl
            obtain ⟨wn, hwn⟩ : ∃ wn, hI4_w = wn := ⟨_, rfl⟩
            rw [hwn] at hI4 hvb ⊢
            have hS3 : ∀ k, wn.drew.heap.size ≤ k → w.heap.size < k ∧ k ≠ o ∧ ¬ (w3.heap.size ≤ k ∧ k < o) ∧ k ≠ gb2 := fun k hk => by have a1 := hI4.at1; have a2 := hI4.at2; simp at hk; omega
            have hP' : Box3 wn.drew o (.int .i64 B) (.slice da D.length dc) (.slice va ps.length vc) 25 := hI4.box
            have hR' : PRow (fun q => w.heap.size < q ∧ q ≠ o ∧ ¬ (w3.heap.size ≤ q ∧ q < o) ∧ q ≠ gb2) wn.drew (.slice va ps.length vc) ps := hI4.cache.below (Below.refl _ _).drew
            obtain ⟨z0, z1, z2⟩ := hI4.box.cells
            have HI : Hid _ := hI4
            clear hI4 hwn
            go_wp2_with fail
            go_region_law (first | (refine step_appendR (by rfl) _ _ (by rfl) bk (dbl zs q) rfl hR' k4 k1 k2 k3 hS3 (by rfl) ⟨_, by rfl, by rfl⟩ hpl2 ?_; intro v' w15 hR15 hF15; obtain ⟨va5, vn5, rfl⟩ := hR15.form_snoc; have hP15 : Box3 w15 o (.int .i64 B) (.slice da D.length dc) (.slice va ps.length vc) 25 := (hF15.block _ hP14.lt hpS).trans hP14; obtain ⟨r0, r1, r2⟩ := hP15.cells; have hfr5 := hP15.free) | (go_simp; go_at_call 43; refine (l1Copy_any _ (dbl zs q) _ ?_ hd).mono ?_; exact hvb.below (Below.refl _ _).drew; rintro e w14 ⟨na, nc, gn, rfl, k1, k2, k3, k4⟩; have hP14 := Box3.below hP' k4; have hpl := hP14.lt; obtain ⟨t0, t1, t2⟩ := hP14.cells))
            all_goals
              obtain ⟨e1, e2, e3⟩ := write_end hP15 hR15 hF15 k4 (Below.refl _ _) hpS
              have hI9 := HI.out.appended hg hbase e1 e2 e3
              clear hP15 hR15 hF15 k1 k2 k3 k4 hP14 hP' hR' t0 t1 t2 r0 r1 r2 hfr5 z0 z1 z2 e1 e2 e3 HI hvb
              go_wp2
              go_roundw
              case rel => exact ⟨k + 1, gb2, bc2, _, by omega, by go_num, rfl, by rw [HS1.out]; exact hI9⟩
              case measure => simp [intOf]; omega
        · exact absurd hlt (by omega)
      · have hi : ¬ (k : Int) < (n1 : Int) := by omega
        obtain rfl : k = n1 := by omega
        obtain ⟨sk, HSK⟩ : ∃ sk, Hid (dlp zs B s0 k = sk) := ⟨_, rfl⟩
        have hpl := dlp_len zs B s0 k
        rw [HL0.out, Nat.zero_add] at hpl
        rw [HSK.out] at hI1 hpl
        rw [HSK.out] at HR2
        obtain ⟨ps, b, q⟩ := sk
        simp only at hI1 hpl
        have hpl2 : ps.length < 1048576 := by omega
        have HPL : Hid (ps.length = k) := hpl
        clear HSK hpl
        go_wp2_with fail
        refine (l1Next_x base g a c zs _ 6 (by decide) (by decide) _ hI1.src).mono ?_
        rintro e w20 ⟨rfl, hs20, hf20⟩
        have hI2 := hI1.drawn hg hs20 hf20
        clear hI1 hs20 hf20
        by_cases h6 : nxV zs q 6 = 0
        · rw [h6]
          go_wp2_with fail
          refine (l1Next_x base g a c zs _ 5 (by decide) (by decide) _ hI2.src).mono ?_
          rintro e hI3_w ⟨rfl, hs21, hf21⟩
          have hI3 := hI2.drawn hg hs21 hf21
          clear hI2 hs21 hf21
          have HR3 : Hid (ddR zs p = ((if nxV zs (nxS zs q) 5 = 0 then (B, D.drop 1, ps) else if nxV zs (nxS zs q) 5 = 1 then (B + 1, D, ps) else if nxV zs (nxS zs q) 5 = 2 then (B, D, ps ++ [(B, b)]) else if nxV zs (nxS zs q) 5 = 3 then (B, D, ps ++ [(-1, b)]) else (B, D, ps ++ [(0, b.drop 1)])), nxS zs (nxS zs q))) := by rw [Hid, HR2.out]; unfold spl; rw [if_pos h6]
          generalize nxV zs (nxS zs q) 5 = k5 at HR3 ⊢
          generalize nxS zs (nxS zs q) = q5 at HR3 hI3
          have a1 := hI3.at1
          have a2 := hI3.at2
          by_cases h50 : k5 = 0
          · subst h50
            have HRV : Hid (ddR zs p = ((B, D.drop 1, ps), q5)) := by rw [Hid, HR3.out, if_pos rfl]
            obtain ⟨_, _, he, hsd⟩ := hI3.disk.shape
            simp only [Value.slice.injEq, true_and] at he
            obtain ⟨rfl, rfl⟩ := he
            obtain ⟨db, doff, rfl, -⟩ := hsd (by have := HDL.out.1; omega)
            obtain ⟨va, vc, rfl⟩ := hI3.cache.form
            obtain ⟨dl, hdl⟩ : ∃ dl, D.length = dl + 1 := ⟨D.length - 1, by have := HDL.out.1; omega⟩
            obtain ⟨dcl, hdcl⟩ : ∃ dcl, dc = dcl + 1 := ⟨dc - 1, by have := HDL.out; omega⟩
            have hdd : dl ≤ dcl ∧ 0 < dl := by have := HDL.out; omega
            have HDD : Hid (D.length = dl + 1) := hdl
            subst hdcl
            rw [hdl] at hI3 ⊢
            clear hdl
            have hI9 := hI3.boxed hg hbase 1 (.slice (some ⟨db, doff + 1, none⟩) dl dcl)
            have hres := hI9.2.1
            have hend := fun x y z => DvR.mk3 (B := B) (D := D.drop 1) (l := dl) hI9.1 hg (by rw [List.length_drop, HDD.out]; omega) (hI9.2.2.1.drop1 (by omega) dl dcl rfl) (by rw [List.length_drop, HDD.out]; omega) rfl hI9.2.2.2.1 (fun q e => by omega) a2.1 hbase hI9.2.2.2.2 x y z
            obtain ⟨z0, z1, z2⟩ := hI3.box.cells
            have zf := hI3.box.free
            clear hI3 hI9 hsd
            obtain ⟨q0, q1, q2⟩ := hres.cells
            have qf := hres.free
            have e0 := fun x => World.cell?_setCell_same (hI3_w.setCell ⟨o, 1, none⟩ (.slice (some ⟨db, doff + 1, none⟩) dl dcl)) ⟨w.heap.size, 0, none⟩ x q0
            have e1 := fun x y => World.cell?_setCell_same ((hI3_w.setCell ⟨o, 1, none⟩ (.slice (some ⟨db, doff + 1, none⟩) dl dcl)).setCell ⟨w.heap.size, 0, none⟩ x) ⟨w.heap.size, 1, none⟩ y ((set_ne _ _ _ _ _ (by decide)).trans q1)
            have e2 := fun x y z => World.cell?_setCell_same (((hI3_w.setCell ⟨o, 1, none⟩ (.slice (some ⟨db, doff + 1, none⟩) dl dcl)).setCell ⟨w.heap.size, 0, none⟩ x).setCell ⟨w.heap.size, 1, none⟩ y) ⟨w.heap.size, 2, none⟩ z (((set_ne _ _ _ _ _ (by decide)).trans (set_ne _ _ _ _ _ (by decide))).trans q2)
            go_wp2
            refine bodyPost_ret (v := .agg #[.int .i64 (B), .slice (some ⟨db, doff + 1, none⟩) (dl) (dcl), .slice va (ps.length) (vc)]) (by simp [results, Try.results37, go_sem, e0, e1, e2]) rfl ?_
            rw [HRV.out]
            exact ⟨_, rfl, hend _ _ _⟩
          · have h50' : (k5 == 0) = false := by simpa using h50
            by_cases h51 : k5 = 1
            · subst h51
              have HRV : Hid (ddR zs p = ((B + 1, D, ps), q5)) := by rw [Hid, HR3.out, if_neg (by decide), if_pos rfl]
              obtain ⟨va, vc, rfl⟩ := hI3.cache.form
              have hI9 := hI3.boxed hg hbase 0 (.int .i64 (B + 1))
              have hres := hI9.2.1
              have hend := fun x y z => DvR.mk (B := B + 1) hI9.1 hg hI9.2.2.1 HDL.out.2 hI9.2.2.2.1 (fun q e => by omega) a2.1 hbase hI9.2.2.2.2 x y z
              obtain ⟨z0, z1, z2⟩ := hI3.box.cells
              have zf := hI3.box.free
              clear hI3 hI9
              obtain ⟨q0, q1, q2⟩ := hres.cells
              have qf := hres.free
              have e0 := fun x => World.cell?_setCell_same (hI3_w.setCell ⟨o, 0, none⟩ (.int .i64 (B + 1))) ⟨w.heap.size, 0, none⟩ x q0
              have e1 := fun x y => World.cell?_setCell_same ((hI3_w.setCell ⟨o, 0, none⟩ (.int .i64 (B + 1))).setCell ⟨w.heap.size, 0, none⟩ x) ⟨w.heap.size, 1, none⟩ y ((set_ne _ _ _ _ _ (by decide)).trans q1)
              have e2 := fun x y z => World.cell?_setCell_same (((hI3_w.setCell ⟨o, 0, none⟩ (.int .i64 (B + 1))).setCell ⟨w.heap.size, 0, none⟩ x).setCell ⟨w.heap.size, 1, none⟩ y) ⟨w.heap.size, 2, none⟩ z (((set_ne _ _ _ _ _ (by decide)).trans (set_ne _ _ _ _ _ (by decide))).trans q2)
              go_wp2
              refine bodyPost_ret (v := .agg #[.int .i64 (B + 1), .slice da (D.length) (dc), .slice va (ps.length) (vc)]) (by simp [results, Try.results37, go_sem, e0, e1, e2]) rfl ?_
              rw [HRV.out]
              exact ⟨_, rfl, hend _ _ _⟩
            · have h51' : (k5 == 1) = false := by simpa using h51
              by_cases h52 : k5 = 2
              · subst h52
                have HRV : Hid (ddR zs p = ((B, D, ps ++ [(B, b)]), q5)) := by rw [Hid, HR3.out, if_neg (by decide), if_neg (by decide), if_pos rfl]
                obtain ⟨va, vc, rfl⟩ := hI3.cache.form
                have hd : b.length ≤ 1048576 := by rw [hI3.bl]; decide
                have hvb := hI3.blk.bts
                have hpS : ¬ (w.heap.size < o ∧ o ≠ o ∧ ¬ (w3.heap.size ≤ o ∧ o < o) ∧ o ≠ gb) := fun e => e.2.1 rfl
                obtain ⟨wn, hwn⟩ : ∃ wn, hI3_w = wn := ⟨_, rfl⟩
                rw [hwn] at hI3 hvb ⊢
                have hS3 : ∀ k, wn.drew.heap.size ≤ k → w.heap.size < k ∧ k ≠ o ∧ ¬ (w3.heap.size ≤ k ∧ k < o) ∧ k ≠ gb := fun k hk => by have a1 := hI3.at1; have a2 := hI3.at2; simp at hk; omega
                have hP' : Box3 wn.drew o (.int .i64 B) (.slice da D.length dc) (.slice va ps.length vc) 25 := hI3.box
                have hR' : PRow (fun q => w.heap.size < q ∧ q ≠ o ∧ ¬ (w3.heap.size ≤ q ∧ q < o) ∧ q ≠ gb) wn.drew (.slice va ps.length vc) ps := hI3.cache.below (Below.refl _ _).drew
                obtain ⟨z0, z1, z2⟩ := hI3.box.cells
                have HI : Hid _ := hI3
                clear hI3 hwn
                go_wp2_with fail
                go_region_law (first | (refine step_appendR (by rfl) _ _ (by rfl) B b rfl hR' k4 k1 k2 k3 hS3 (by rfl) ⟨_, by rfl, by rfl⟩ hpl2 ?_; intro v' w15 hR15 hF15; obtain ⟨va5, vn5, rfl⟩ := hR15.form_snoc; have hP15 : Box3 w15 o (.int .i64 B) (.slice da D.length dc) (.slice va ps.length vc) 25 := (hF15.block _ hP14.lt hpS).trans hP14; obtain ⟨r0, r1, r2⟩ := hP15.cells; have hfr5 := hP15.free) | (go_simp; go_at_call 43; refine (l1Copy_any _ b _ ?_ hd).mono ?_; exact hvb.below (Below.refl _ _).drew; rintro e w14 ⟨na, nc, gn, rfl, k1, k2, k3, k4⟩; have hP14 := Box3.below hP' k4; have hpl := hP14.lt; obtain ⟨t0, t1, t2⟩ := hP14.cells))
                all_goals
                  obtain ⟨e1, e2, e3⟩ := write_end hP15 hR15 hF15 k4 (Below.refl _ _) hpS
                  have hI9 := HI.out.appended hg hbase e1 e2 e3
                  clear hP15 hR15 hF15 k1 k2 k3 k4 hP14 hP' hR' t0 t1 t2 r0 r1 r2 hfr5 z0 z1 z2 e1 e2 e3 HI hvb
                  have hres := hI9.res
                  have hend := fun x y z => DvR.mk2 (B := B) (m := ps.length + 1) hI9.src hg hI9.disk HDL.out.2 (by simp) hI9.cache (fun q e => by omega) a2.1 hbase hI9.frm x y z
                  obtain ⟨z0, z1, z2⟩ := hI9.box.cells
                  clear hI9
                  obtain ⟨q0, q1, q2⟩ := hres.cells
                  have qf := hres.free
                  have e0 := fun x => World.cell?_setCell_same (w15.setCell ⟨o, 2, none⟩ (.slice va5 (ps.length + 1) vn5)) ⟨w.heap.size, 0, none⟩ x q0
                  have e1 := fun x y => World.cell?_setCell_same ((w15.setCell ⟨o, 2, none⟩ (.slice va5 (ps.length + 1) vn5)).setCell ⟨w.heap.size, 0, none⟩ x) ⟨w.heap.size, 1, none⟩ y ((set_ne _ _ _ _ _ (by decide)).trans q1)
                  have e2 := fun x y z => World.cell?_setCell_same (((w15.setCell ⟨o, 2, none⟩ (.slice va5 (ps.length + 1) vn5)).setCell ⟨w.heap.size, 0, none⟩ x).setCell ⟨w.heap.size, 1, none⟩ y) ⟨w.heap.size, 2, none⟩ z (((set_ne _ _ _ _ _ (by decide)).trans (set_ne _ _ _ _ _ (by decide))).trans q2)
                  go_wp2
                  refine bodyPost_ret (v := .agg #[.int .i64 (B), .slice da (D.length) (dc), .slice va5 (ps.length + 1) (vn5)]) (by simp [results, Try.results37, go_sem, e0, e1, e2]) rfl ?_
                  rw [HRV.out]
                  exact ⟨_, rfl, hend _ _ _⟩
              · have h52' : (k5 == 2) = false := by simpa using h52
                by_cases h53 : k5 = 3
                · subst h53
                  have HRV : Hid (ddR zs p = ((B, D, ps ++ [((-1), b)]), q5)) := by rw [Hid, HR3.out, if_neg (by decide), if_neg (by decide), if_neg (by decide), if_pos rfl]
                  obtain ⟨va, vc, rfl⟩ := hI3.cache.form
                  have hd : b.length ≤ 1048576 := by rw [hI3.bl]; decide
                  have hvb := hI3.blk.bts
                  have hpS : ¬ (w.heap.size < o ∧ o ≠ o ∧ ¬ (w3.heap.size ≤ o ∧ o < o) ∧ o ≠ gb) := fun e => e.2.1 rfl
                  obtain ⟨wn, hwn⟩ : ∃ wn, hI3_w = wn := ⟨_, rfl⟩
                  rw [hwn] at hI3 hvb ⊢
                  have hS3 : ∀ k, wn.drew.heap.size ≤ k → w.heap.size < k ∧ k ≠ o ∧ ¬ (w3.heap.size ≤ k ∧ k < o) ∧ k ≠ gb := fun k hk => by have a1 := hI3.at1; have a2 := hI3.at2; simp at hk; omega
                  have hP' : Box3 wn.drew o (.int .i64 B) (.slice da D.length dc) (.slice va ps.length vc) 25 := hI3.box
                  have hR' : PRow (fun q => w.heap.size < q ∧ q ≠ o ∧ ¬ (w3.heap.size ≤ q ∧ q < o) ∧ q ≠ gb) wn.drew (.slice va ps.length vc) ps := hI3.cache.below (Below.refl _ _).drew
                  obtain ⟨z0, z1, z2⟩ := hI3.box.cells
                  have HI : Hid _ := hI3
                  clear hI3 hwn
                  go_wp2_with fail
                  go_region_law (first | (refine step_appendR (by rfl) _ _ (by rfl) (-1) b rfl hR' k4 k1 k2 k3 hS3 (by rfl) ⟨_, by rfl, by rfl⟩ hpl2 ?_; intro v' w15 hR15 hF15; obtain ⟨va5, vn5, rfl⟩ := hR15.form_snoc; have hP15 : Box3 w15 o (.int .i64 B) (.slice da D.length dc) (.slice va ps.length vc) 25 := (hF15.block _ hP14.lt hpS).trans hP14; obtain ⟨r0, r1, r2⟩ := hP15.cells; have hfr5 := hP15.free) | (go_simp; go_at_call 43; refine (l1Copy_any _ b _ ?_ hd).mono ?_; exact hvb.below (Below.refl _ _).drew; rintro e w14 ⟨na, nc, gn, rfl, k1, k2, k3, k4⟩; have hP14 := Box3.below hP' k4; have hpl := hP14.lt; obtain ⟨t0, t1, t2⟩ := hP14.cells))
                  all_goals
                    obtain ⟨e1, e2, e3⟩ := write_end hP15 hR15 hF15 k4 (Below.refl _ _) hpS
                    have hI9 := HI.out.appended hg hbase e1 e2 e3
                    clear hP15 hR15 hF15 k1 k2 k3 k4 hP14 hP' hR' t0 t1 t2 r0 r1 r2 hfr5 z0 z1 z2 e1 e2 e3 HI hvb
                    have hres := hI9.res
                    have hend := fun x y z => DvR.mk2 (B := B) (m := ps.length + 1) hI9.src hg hI9.disk HDL.out.2 (by simp) hI9.cache (fun q e => by omega) a2.1 hbase hI9.frm x y z
                    obtain ⟨z0, z1, z2⟩ := hI9.box.cells
                    clear hI9
                    obtain ⟨q0, q1, q2⟩ := hres.cells
                    have qf := hres.free
                    have e0 := fun x => World.cell?_setCell_same (w15.setCell ⟨o, 2, none⟩ (.slice va5 (ps.length + 1) vn5)) ⟨w.heap.size, 0, none⟩ x q0
                    have e1 := fun x y => World.cell?_setCell_same ((w15.setCell ⟨o, 2, none⟩ (.slice va5 (ps.length + 1) vn5)).setCell ⟨w.heap.size, 0, none⟩ x) ⟨w.heap.size, 1, none⟩ y ((set_ne _ _ _ _ _ (by decide)).trans q1)
                    have e2 := fun x y z => World.cell?_setCell_same (((w15.setCell ⟨o, 2, none⟩ (.slice va5 (ps.length + 1) vn5)).setCell ⟨w.heap.size, 0, none⟩ x).setCell ⟨w.heap.size, 1, none⟩ y) ⟨w.heap.size, 2, none⟩ z (((set_ne _ _ _ _ _ (by decide)).trans (set_ne _ _ _ _ _ (by decide))).trans q2)
                    go_wp2
                    refine bodyPost_ret (v := .agg #[.int .i64 (B), .slice da (D.length) (dc), .slice va5 (ps.length + 1) (vn5)]) (by simp [results, Try.results37, go_sem, e0, e1, e2]) rfl ?_
                    rw [HRV.out]
                    exact ⟨_, rfl, hend _ _ _⟩
                · have h53' : (k5 == 3) = false := by simpa using h53
                  have HRV : Hid (ddR zs p = ((B, D, ps ++ [(0, b.drop 1)]), q5)) := by rw [Hid, HR3.out, if_neg h50, if_neg h51, if_neg h52, if_neg h53]
                  obtain ⟨va, vc, rfl⟩ := hI3.cache.form
                  have hbl := hI3.bl
                  have hbc := hI3.cap
                  obtain ⟨bcl, hbcl⟩ : ∃ bcl, bc = bcl + 1 := ⟨bc - 1, by omega⟩
                  subst hbcl
                  have hw4 := hI3.blk.drop1 (by decide) 127 bcl rfl
                  have hb127 : (b.drop 1).length = 127 := by rw [List.length_drop, hbl]
                  have hpS : ¬ (w.heap.size < o ∧ o ≠ o ∧ ¬ (w3.heap.size ≤ o ∧ o < o) ∧ o ≠ gb) := fun e => e.2.1 rfl
                  have hgS : ¬ (w.heap.size < gb ∧ gb ≠ o ∧ ¬ (w3.heap.size ≤ gb ∧ gb < o) ∧ gb ≠ gb) := fun e => e.2.2.2 rfl
                  obtain ⟨wn, hwn⟩ : ∃ wn, hI3_w = wn := ⟨_, rfl⟩
                  rw [hwn] at hI3 hw4 ⊢
                  have hS3 : ∀ k, wn.drew.heap.size ≤ k → w.heap.size < k ∧ k ≠ o ∧ ¬ (w3.heap.size ≤ k ∧ k < o) ∧ k ≠ gb := fun k hk => by have a1 := hI3.at1; have a2 := hI3.at2; simp at hk; omega
                  have hP' : Box3 wn.drew o (.int .i64 B) (.slice da D.length dc) (.slice va ps.length vc) 25 := hI3.box
                  have hR' : PRow (fun q => w.heap.size < q ∧ q ≠ o ∧ ¬ (w3.heap.size ≤ q ∧ q < o) ∧ q ≠ gb) wn.drew (.slice va ps.length vc) ps := hI3.cache.below (Below.refl _ _).drew
                  have hw5 : Own8 gb (gb + 1) wn.drew (.slice (some ⟨gb, 1, none⟩) 127 bcl) (b.drop 1) := hw4.below (Below.refl _ _).drew
                  have hgb2 : gb < wn.drew.heap.size := hI3.at1.2.1
                  obtain ⟨z0, z1, z2⟩ := hI3.box.cells
                  have HI : Hid _ := hI3
                  have HBL : Hid (b.length = 128) := hbl
                  clear hI3 hwn hbl hw4
                  have hpS2 : ¬ ((w.heap.size < o ∧ o ≠ o ∧ ¬ (w3.heap.size ≤ o ∧ o < o) ∧ o ≠ gb) ∨ o = gb) := by omega
                  have a3 := HI.out.at1
                  have a4 := HI.out.at2
                  have hbc0 : ¬ bcl = 0 := by omega
                  go_wp2_with fail
                  go_region_law (first | (refine step_appendX (by rfl) _ _ (by rfl) 0 (b.drop 1) hb127 hR' hgS hgb2 hw5 hS3 (by rfl) ⟨_, by rfl, by rfl⟩ hpl2 ?_; intro v' w15 hR15 hF15; obtain ⟨va5, vn5, rfl⟩ := hR15.form_snoc; have hP15 : Box3 w15 o (.int .i64 B) (.slice da D.length dc) (.slice va ps.length vc) 25 := (hF15.block _ hP'.lt hpS).trans hP'; obtain ⟨r0, r1, r2⟩ := hP15.cells; have hfr5 := hP15.free))
                  all_goals
                    obtain ⟨e1, e2, e3⟩ := write_end (w := wn) (w1 := wn) (w2 := wn.drew) hP15 hR15 (hF15.wider fun k e => .inl e) (Below.refl _ _) (Below.refl _ _) hpS2
                    have hI := HI.out
                    have hres := (e3.block _ hI.res.lt (by omega)).trans hI.res
                    have hend := fun x y z => DvR.mk2 (B := B) (m := ps.length + 1) (hI.src.frm e3 (by omega) (fun q e => by omega)) hg (hI.disk.kept e3.size (fun q q1 q2 q3 => e3.block q q3 (by omega))) HDL.out.2 (by simp) e2 (fun q e => by omega) a4.1 hbase (hI.frm.trans (e3.mono fun k _ e => .inr (by omega))) x y z
                    have hres : Box3 _ w.heap.size (.int .i64 0) (.slice none 0 0) (.slice none 0 0) 25 := hres
                    clear hP15 hR15 hF15 hP' hR' r0 r1 r2 hfr5 z0 z1 z2 e2 e3 HI hI hw5
                    obtain ⟨z0, z1, z2⟩ := e1.cells
                    clear e1
                    obtain ⟨q0, q1, q2⟩ := hres.cells
                    have qf := hres.free
                    have e0 := fun x => World.cell?_setCell_same (w15.setCell ⟨o, 2, none⟩ (.slice va5 (ps.length + 1) vn5)) ⟨w.heap.size, 0, none⟩ x q0
                    have e1 := fun x y => World.cell?_setCell_same ((w15.setCell ⟨o, 2, none⟩ (.slice va5 (ps.length + 1) vn5)).setCell ⟨w.heap.size, 0, none⟩ x) ⟨w.heap.size, 1, none⟩ y ((set_ne _ _ _ _ _ (by decide)).trans q1)
                    have e2 := fun x y z => World.cell?_setCell_same (((w15.setCell ⟨o, 2, none⟩ (.slice va5 (ps.length + 1) vn5)).setCell ⟨w.heap.size, 0, none⟩ x).setCell ⟨w.heap.size, 1, none⟩ y) ⟨w.heap.size, 2, none⟩ z (((set_ne _ _ _ _ _ (by decide)).trans (set_ne _ _ _ _ _ (by decide))).trans q2)
                    go_wp2
                    refine bodyPost_ret (v := .agg #[.int .i64 (B), .slice da (D.length) (dc), .slice va5 (ps.length + 1) (vn5)]) (by simp [results, Try.results37, go_sem, e0, e1, e2]) rfl ?_
                    rw [HRV.out]
                    exact ⟨_, rfl, hend _ _ _⟩
        · have h6' : (nxV zs q 6 == 0) = false := by simpa using h6
          have HRV : Hid (ddR zs p = ((B, D, ps), nxS zs q)) := by rw [Hid, HR2.out]; unfold spl; rw [if_neg h6]
          obtain ⟨va, vc, rfl⟩ := hI2.cache.form
          have hres := hI2.res
          have a2 := hI2.at2
          have hend := fun x y z => DvR.mk (B := B) hI2.src hg hI2.disk HDL.out.2 hI2.cache (fun q e => by omega) a2.1 hbase hI2.frm x y z
          obtain ⟨z0, z1, z2⟩ := hI2.box.cells
          clear hI2
          obtain ⟨q0, q1, q2⟩ := hres.cells
          have qf := hres.free
          have e0 := fun x => World.cell?_setCell_same (w20) ⟨w.heap.size, 0, none⟩ x q0
          have e1 := fun x y => World.cell?_setCell_same ((w20).setCell ⟨w.heap.size, 0, none⟩ x) ⟨w.heap.size, 1, none⟩ y ((set_ne _ _ _ _ _ (by decide)).trans q1)
          have e2 := fun x y z => World.cell?_setCell_same (((w20).setCell ⟨w.heap.size, 0, none⟩ x).setCell ⟨w.heap.size, 1, none⟩ y) ⟨w.heap.size, 2, none⟩ z (((set_ne _ _ _ _ _ (by decide)).trans (set_ne _ _ _ _ _ (by decide))).trans q2)
          go_wp2
          refine bodyPost_ret (v := .agg #[.int .i64 (B), .slice da (D.length) (dc), .slice va (ps.length) (vc)]) (by simp [results, Try.results37, go_sem, e0, e1, e2]) rfl ?_
          rw [HRV.out]
          exact ⟨_, rfl, hend _ _ _⟩
end Go.Proofs.Ytbadedhliplkeaa
