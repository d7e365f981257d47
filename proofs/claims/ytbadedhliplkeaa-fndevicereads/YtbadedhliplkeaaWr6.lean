import Derived.Test.YtbadedhliplkeaaWr5
namespace Go.Proofs.Ytbadedhliplkeaa
open Go.RowKit
set_option linter.unusedVariables false

theorem res_endO {S : Nat → Prop} {w w3 : World} {g r : Nat} {B : Int} {ua ca : Option Addr} {uc cc : Nat} {zs : List Int} {ps : List (Int × List Int)} (hb : Below w.heap.size w w3) (h2 : Own8 g (g + 1) w3 (.slice ua zs.length uc) zs) (hl : g < w3.heap.size) (hR : PRow S w3 (.slice ca ps.length cc) ps) (hS : ∀ k, S k → w.heap.size ≤ k ∧ k ≠ g ∧ k ≠ r) (h3 : w.heap.size ≤ r) (h4 : r ≠ g) (h5 : w.heap.size ≤ g) (x y z : Value) :
    DOwnX w.heap.size (((w3.setCell ⟨r, 0, none⟩ x).setCell ⟨r, 1, none⟩ y).setCell ⟨r, 2, none⟩ z).heap.size (((w3.setCell ⟨r, 0, none⟩ x).setCell ⟨r, 1, none⟩ y).setCell ⟨r, 2, none⟩ z) (.agg #[.int .i64 B, .slice ua zs.length uc, .slice ca ps.length cc]) B zs ps ∧
      Below w.heap.size w (((w3.setCell ⟨r, 0, none⟩ x).setCell ⟨r, 1, none⟩ y).setCell ⟨r, 2, none⟩ z) := by
  have hk : ∀ k, k ≠ r → (((w3.setCell ⟨r, 0, none⟩ x).setCell ⟨r, 1, none⟩ y).setCell ⟨r, 2, none⟩ z).heap[k]? = w3.heap[k]? := fun k hk => (Below.heap_setCell _ _ _ _ hk).trans ((Below.heap_setCell _ _ _ _ hk).trans (Below.heap_setCell _ _ _ _ hk))
  have hsz : (((w3.setCell ⟨r, 0, none⟩ x).setCell ⟨r, 1, none⟩ y).setCell ⟨r, 2, none⟩ z).heap.size = w3.heap.size := by simp
  refine ⟨⟨ua, uc, ca, cc, g, g + 1, rfl, h5, by omega, h2.kept (by omega) (fun k k1 k2 _ => hk k (by omega)), ?_⟩, ((hb.setCell (p := ⟨r, 0, none⟩) h3 x).setCell (p := ⟨r, 1, none⟩) h3 y).setCell (p := ⟨r, 2, none⟩) h3 z⟩
  refine (hR.kept (by omega) (fun b hb _ => hk b (hS b hb).2.2)).own.wider (fun k hk hl => ?_)
  have := hS k hk
  omega

theorem wP_no {B : Int} {ps : List (Int × List Int)} {q : Int} {ds : List Int} {c : Int} (h : wC B ps.length q ds.length = c) (hc : c ≠ 0) : wP B ps q ds = ps := by
  unfold wP; rw [if_neg (by rw [h]; exact hc)]

set_option maxRecDepth 100000 in
set_option maxHeartbeats 4000000 in
theorem specWrite_yes (q : Int) (ea : Option Addr) (ec : Nat) (ds : List Int) (B : Int) (da ca : Option Addr) (dc cc : Nat) (zs : List Int) (ps : List (Int × List Int)) (w : World) (h : DRead w (.agg #[.int .i64 B, .slice da zs.length dc, .slice ca ps.length cc]) B zs ps) (hok : dOK B zs ps = true) (hv : Bts w (.slice ea ds.length ec) ds) (hd : ds.length ≤ 1048576) :
    Calls Try.prog 18 #[.agg #[.int .i64 B, .slice da zs.length dc, .slice ca ps.length cc], .int .i64 q, .slice ea ds.length ec] w fun e w' => ∃ xa xc ya yc, e = .returned (.tuple #[.agg #[.int .i64 B, .slice xa zs.length xc, .slice ya (wP B ps q ds).length yc], .int .i64 (wC B ps.length q ds.length)]) ∧ DOwnX w.heap.size w'.heap.size w' (.agg #[.int .i64 B, .slice xa zs.length xc, .slice ya (wP B ps q ds).length yc]) B zs (wP B ps q ds) ∧ Below w.heap.size w w' := by
  obtain ⟨hB1, hB2, hzl, hpl, hel⟩ := dOK_out hok
  have hzl' : zs.length ≤ 1048576 := by omega
  have hel' : ∀ i, (ps.getD i (0, [])).2.length ≤ 1048576 := fun i => by
    by_cases hi : i < ps.length
    · have := of_decide_eq_true (hel i hi); omega
    · simp [hi]
  have hbel := fun o1 o2 => ((Below.refl w.heap.size w).alloc (Nat.le_refl _) o1).alloc (by simp) o2
  have hX := (Box3.made w (.int .i64 B) (.slice da zs.length dc) (.slice ca ps.length cc) 25 _ rfl).alloc (.cells #[.int .i64 0, .slice none 0 0, .slice none 0 0] 25)
  have hY := Box3.made (w.alloc (.cells #[.int .i64 B, .slice da zs.length dc, .slice ca ps.length cc] 25)) (.int .i64 0) (.slice none 0 0) (.slice none 0 0) 25 (w.heap.size + 1) (by simp)
  have hb0 := hbel (.cells #[.int .i64 B, .slice da zs.length dc, .slice ca ps.length cc] 25) (.cells #[.int .i64 0, .slice none 0 0, .slice none 0 0] 25)
  clear hzl hbel
  go_enter Try.func18, Try.ntmps18
  go_wp2_with fail
  refine (l1Valid_any B _ zs ps _ (h.below hb0) hzl' (by omega) hel').mono ?_
  rintro e w1 ⟨rfl, hb1⟩
  have hX1 := hX.below hb1
  have hY1 := hY.below hb1
  have hs1 : w.heap.size + 1 + 1 ≤ w1.heap.size := by have := hb1.size; simpa using this
  have hbel1 := hb0.trans (hb1.mono hb0.size)
  obtain ⟨c0, c1, c2⟩ := hX1.cells
  clear hX hY hb1 hb0
  go_wp2_with fail
  refine (copyDevice_any B da ca dc cc zs ps _ (h.below hbel1) hzl' hpl hel').mono ?_
  rintro e w2 ⟨ua, uc, va, vc, g, rfl, hg0, hgl, hu, hR, hb2⟩
  have hX2 := hX1.below hb2
  have hY2 := hY1.below hb2
  have hbel2 := hbel1.trans (hb2.mono hbel1.size)
  have hs2 := hb2.size
  have hR2 : PRow (fun k => w1.heap.size ≤ k ∧ k ≠ g ∧ k ≠ w2.heap.size) w2 _ ps := hR.wider (fun k hk hl => by omega)
  clear c0 c1 c2 hX1 hY1 hb2 hbel1 hR
  have hb3 := belowA w2 (.cells #[.int .i64 B, .slice ua zs.length uc, .slice va ps.length vc] 25)
  have hP3 := Box3.made w2 (.int .i64 B) (.slice ua zs.length uc) (.slice va ps.length vc) 25 _ rfl
  have hR3 := hR2.below hb3
  have hu3 := hu.below hb3
  have hX3 := hX2.below hb3
  have hY3 := hY2.below hb3
  have hbel3 := hbel2.trans (hb3.mono hbel2.size)
  have hv3 := hv.below hbel3
  clear hu hR2 hY2 hX2 hb3 hbel2
  obtain ⟨x0, x1, x2⟩ := hX3.cells
  obtain ⟨y0, y1, y2⟩ := hY3.cells
  obtain ⟨p0, p1, p2⟩ := hP3.cells
  have hfr := hY3.free
  have hl3 : g < (w2.alloc (.cells #[.int .i64 B, .slice ua zs.length uc, .slice va ps.length vc] 25)).heap.size := by simp; omega
  have hend := res_endO (B := B) (r := w.heap.size + 1) hbel3 hu3 hl3 hR3 (fun k hk => by omega) (by omega) (by omega) (by omega)
  clear hok hel hel' h hv
  by_cases h1 : q < 0
  · have hc : wC B ps.length q ds.length = 2 := by unfold wC; rw [inB_false (by omega)]; rfl
    have HC : Hid (wC B ps.length q ds.length = 2) := hc
    have HP : Hid (wP B ps q ds = ps) := wP_no hc (by decide)
    clear hc hP3 hR3 hu3 hX3 hY3 hv3 hl3
    go_wp2
    refine bodyPost_ret (v := .tuple #[.agg #[.int .i64 B, .slice ua zs.length uc, .slice va ps.length vc], .int .i64 2]) (by simp [results, Try.results18, go_sem, y0, y1, y2]) rfl ?_
    rw [HP.out, HC.out]
    exact ⟨_, _, _, _, rfl, (hend _ _ _).1, (hend _ _ _).2⟩
  · by_cases h2 : B ≤ q
    · have hc : wC B ps.length q ds.length = 2 := by unfold wC; rw [inB_false (by omega)]; rfl
      have HC : Hid (wC B ps.length q ds.length = 2) := hc
      have HP : Hid (wP B ps q ds = ps) := wP_no hc (by decide)
      clear hc hP3 hR3 hu3 hX3 hY3 hv3 hl3
      go_wp2
      refine bodyPost_ret (v := .tuple #[.agg #[.int .i64 B, .slice ua zs.length uc, .slice va ps.length vc], .int .i64 2]) (by simp [results, Try.results18, go_sem, y0, y1, y2]) rfl ?_
      rw [HP.out, HC.out]
      exact ⟨_, _, _, _, rfl, (hend _ _ _).1, (hend _ _ _).2⟩
    · have hin : inB q 0 (B - 1) = true := inB_true (by omega)
      have h2' : q < B := by omega
      by_cases h3 : ds.length = 128
      · by_cases h4 : ps.length < 2048
        · have hc : wC B ps.length q ds.length = 0 := wC_yes.2 ⟨hin, h3, h4⟩
          have HC : Hid (wC B ps.length q ds.length = 0) := hc
          have HP : Hid (wP B ps q ds = ps ++ [(q, ds)]) := by unfold wP; rw [if_pos hc]; rfl
          have h3' : (ds.length : Int) = 128 := by omega
          have h4' : (ps.length : Int) < 2048 := by omega
          have HD : Hid (ds.length = 128) := h3
          have hpl2 : ps.length < 1048576 := by omega
          clear hc hin h3 hend
          go_wp2_with fail
          clear h3' h4' h1 h2 h2'
          obtain ⟨W3, hW3⟩ : ∃ W3, W3 = w2.alloc (.cells #[.int .i64 B, .slice ua zs.length uc, .slice va ps.length vc] 25) := ⟨_, rfl⟩
          have hsW : W3.heap.size = w2.heap.size + 1 := by rw [hW3]; simp
          rw [← hW3] at hP3 hR3 hu3 hX3 hY3 hbel3 hv3 hl3 x0 x1 x2 y0 y1 y2 p0 p1 p2
          rw [← hW3]
          clear hW3
          have hS3 : ∀ k, W3.drew.heap.size ≤ k → w1.heap.size ≤ k ∧ k ≠ g ∧ k ≠ w2.heap.size := fun k hk => by simp at hk; omega
          have HSW : Hid (W3.heap.size = w2.heap.size + 1) := hsW
          have hpS : ¬ (w1.heap.size ≤ w2.heap.size ∧ w2.heap.size ≠ g ∧ w2.heap.size ≠ w2.heap.size) := by omega
          have hP3' : Box3 W3.drew w2.heap.size (.int .i64 B) (.slice ua zs.length uc) (.slice va ps.length vc) 25 := hP3
          have hR3' : PRow (fun k => w1.heap.size ≤ k ∧ k ≠ g ∧ k ≠ w2.heap.size) W3.drew (.slice va ps.length vc) ps := hR3.below (Below.refl _ _).drew
          clear hsW x0 x1 x2 y0 y1 y2 hR3 hfr
          go_region_law (first | (refine step_appendR (by rfl) _ _ (by rfl) q ds rfl hR3' k4 k1 k2 k3 hS3 (by rfl) ⟨_, by rfl, by rfl⟩ hpl2 ?_; intro v' w5 hR5 hF5; obtain ⟨va5, vn5, rfl⟩ := hR5.form_snoc; have hP5 : Box3 w5 w2.heap.size (.int .i64 B) (.slice ua zs.length uc) (.slice va ps.length vc) 25 := (hF5.block _ hP4.lt hpS).trans hP4; obtain ⟨r0, r1, r2⟩ := hP5.cells; have hfr5 := hP5.free) | (go_simp; go_at_call 43; refine (l1Copy_any _ ds _ ?_ hd).mono ?_; exact hv3.below (Below.refl _ _).drew; rintro e w4 ⟨na, nc, gn, rfl, k1, k2, k3, k4⟩; have hP4 := Box3.below hP3' k4; have hpl := hP4.lt; obtain ⟨t0, t1, t2⟩ := hP4.cells))
          all_goals
            obtain ⟨e1, e2, e3⟩ := write_end hP5 hR5 hF5 k4 (Below.refl _ _) hpS
            have hsW := HSW.out
            have hY6 : Box3 _ (w.heap.size + 1) (.int .i64 0) (.slice none 0 0) (.slice none 0 0) 25 := (e3.block _ hY3.lt (by omega)).trans hY3
            have hu6 := hu3.kept e3.size (fun k k1 k2 k3 => e3.block k k3 (by omega))
            have hl6 := Nat.lt_of_lt_of_le hl3 e3.size
            have hbel6 := hbel3.trans (e3.below hbel3.size (fun k hk => by omega))
            obtain ⟨p0, p1, p2⟩ := e1.cells
            obtain ⟨y0, y1, y2⟩ := hY6.cells
            have hfr := hY6.free
            have hend := res_endO (B := B) (ps := ps ++ [(q, ds)]) (r := w.heap.size + 1) hbel6 hu6 hl6 (by simpa using e2) (fun k hk => by omega) (by omega) (by omega) (by omega)
            clear e1 e2 e3 hP5 hR5 hF5 k1 k2 k3 k4 hP4 hP3 hP3' hR3' t0 t1 t2 r0 r1 r2 hfr5 hu6 hu3 hY3 hY6 hX3 hv3
            go_wp2
            refine bodyPost_ret (v := .tuple #[.agg #[.int .i64 B, .slice ua zs.length uc, .slice va5 (ps.length + 1) vn5], .int .i64 0]) (by simp [results, Try.results18, go_sem, y0, y1, y2]) rfl ?_
            rw [HP.out, HC.out]
            exact ⟨_, _, _, _, by simp, (hend _ _ _).1, (hend _ _ _).2⟩
        · have hc : wC B ps.length q ds.length = 4 := by unfold wC; rw [if_pos hin, if_pos h3, if_neg h4]
          have HC : Hid (wC B ps.length q ds.length = 4) := hc
          have HP : Hid (wP B ps q ds = ps) := wP_no hc (by decide)
          have h3' : (ds.length : Int) = 128 := by omega
          have h4' : ¬ (ps.length : Int) < 2048 := by omega
          clear hc hP3 hR3 hu3 hX3 hY3 hv3 hl3 hin
          go_wp2
          refine bodyPost_ret (v := .tuple #[.agg #[.int .i64 B, .slice ua zs.length uc, .slice va ps.length vc], .int .i64 4]) (by simp [results, Try.results18, go_sem, y0, y1, y2]) rfl ?_
          rw [HP.out, HC.out]
          exact ⟨_, _, _, _, rfl, (hend _ _ _).1, (hend _ _ _).2⟩
      · have hc : wC B ps.length q ds.length = 3 := by unfold wC; rw [if_pos hin, if_neg h3]
        have HC : Hid (wC B ps.length q ds.length = 3) := hc
        have HP : Hid (wP B ps q ds = ps) := wP_no hc (by decide)
        have h3' : ¬ (ds.length : Int) = 128 := by omega
        have h3n : ((ds.length : Int) != 128) = true := by simp [h3']
        clear hc hP3 hR3 hu3 hX3 hY3 hv3 hl3 hin
        go_wp2
        refine bodyPost_ret (v := .tuple #[.agg #[.int .i64 B, .slice ua zs.length uc, .slice va ps.length vc], .int .i64 3]) (by simp [results, Try.results18, go_sem, y0, y1, y2]) rfl ?_
        rw [HP.out, HC.out]
        exact ⟨_, _, _, _, rfl, (hend _ _ _).1, (hend _ _ _).2⟩
end Go.Proofs.Ytbadedhliplkeaa
