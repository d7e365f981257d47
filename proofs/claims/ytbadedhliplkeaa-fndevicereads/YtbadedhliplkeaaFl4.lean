import Derived.Test.YtbadedhliplkeaaFl3
namespace Go.Proofs.Ytbadedhliplkeaa
open Go.RowKit

theorem fits_of_ok {B : Int} {zs : List Int} {ps : List (Int × List Int)} (hok : dOK B zs ps = true) : Fits zs.length ps := fun i hi => by
  obtain ⟨hB1, hB2, hzl, hpl, hel⟩ := dOK_out hok
  have := of_decide_eq_true (hel i hi)
  refine ⟨this.1, ?_, this.2.2⟩
  omega

/-- a device with an empty cache out of its disk -/
theorem DOwn.of_disk {lo hi : Nat} {w : World} {B : Int} {da : Option Addr} {dc : Nat} {zs : List Int} (hlh : lo ≤ hi) (h : Own8 lo hi w (.slice da zs.length dc) zs) : DOwn lo hi w (.agg #[.int .i64 B, .slice da zs.length dc, .slice none 0 0]) B zs [] :=
  ⟨da, dc, none, 0, lo, hi, hi, hi, rfl, Nat.le_refl _, Nat.le_refl _, hlh, Nat.le_refl _, .inl (Nat.le_refl _), h, POwn.empty _ _ _ _ _⟩

/-- three cells of the answer's block -/
theorem res_end {w w3 : World} {g r : Nat} {u : Value} {zs : List Int} (hb : Below w.heap.size w w3) (h2 : RowAt w3 g u zs) (h3 : w.heap.size ≤ r) (h4 : r ≠ g) (h5 : w.heap.size ≤ g) (x y z : Value) :
    Own8 w.heap.size (((w3.setCell ⟨r, 0, none⟩ x).setCell ⟨r, 1, none⟩ y).setCell ⟨r, 2, none⟩ z).heap.size (((w3.setCell ⟨r, 0, none⟩ x).setCell ⟨r, 1, none⟩ y).setCell ⟨r, 2, none⟩ z) u zs ∧
      Below w.heap.size w (((w3.setCell ⟨r, 0, none⟩ x).setCell ⟨r, 1, none⟩ y).setCell ⟨r, 2, none⟩ z) := by
  have u1 : Upd r (r + 1) w3 (w3.setCell ⟨r, 0, none⟩ x) := (Upd.refl _ _ _).setCell (p := ⟨r, 0, none⟩) (Nat.le_refl _) (Nat.lt_succ_self _) x
  have u2 := u1.setCell (p := ⟨r, 1, none⟩) (Nat.le_refl _) (Nat.lt_succ_self _) y
  have u3 := u2.setCell (p := ⟨r, 2, none⟩) (Nat.le_refl _) (Nat.lt_succ_self _) z
  have hlt := h2.lt
  have h6 := (h2.block (u3.block g hlt (by omega))).own
  exact ⟨h6.wider h5 (by simp; omega), hb.trans (u3.below (by omega) hb.size)⟩

set_option maxHeartbeats 4000000 in
theorem implFlush_yes (B : Int) (da ca : Option Addr) (dc cc : Nat) (zs : List Int) (ps : List (Int × List Int)) (w : World) (h : DRead w (.agg #[.int .i64 B, .slice da zs.length dc, .slice ca ps.length cc]) B zs ps) (hok : dOK B zs ps = true) :
    Calls Try.prog 21 #[.agg #[.int .i64 B, .slice da zs.length dc, .slice ca ps.length cc]] w fun e w' => ∃ xa xc, e = .returned (.tuple #[.agg #[.int .i64 B, .slice xa (settle zs ps).length xc, .slice none 0 0], .int .i64 0]) ∧ Own8 w.heap.size w'.heap.size w' (.slice xa (settle zs ps).length xc) (settle zs ps) ∧ Below w.heap.size w w' := by
  obtain ⟨hB1, hB2, hzl, hpl, hel⟩ := dOK_out hok
  have hzl' : zs.length ≤ 1048576 := by omega
  have hel' : ∀ i, (ps.getD i (0, [])).2.length ≤ 1048576 := fun i => by
    by_cases hi : i < ps.length
    · have := of_decide_eq_true (hel i hi); omega
    · simp [hi]
  have hfit := fits_of_ok hok
  have hsl := settle_length zs ps hfit ps.length (Nat.le_refl _)
  rw [List.take_length] at hsl
  have HSL : Hid ((settle zs ps).length = zs.length) := hsl
  have hbel := fun o1 o2 => ((Below.refl w.heap.size w).alloc (Nat.le_refl _) o1).alloc (by simp) o2
  have hX := (Box3.made w (.int .i64 B) (.slice da zs.length dc) (.slice ca ps.length cc) 25 _ rfl).alloc (.cells #[.int .i64 0, .slice none 0 0, .slice none 0 0] 25)
  have hY := Box3.made (w.alloc (.cells #[.int .i64 B, .slice da zs.length dc, .slice ca ps.length cc] 25)) (.int .i64 0) (.slice none 0 0) (.slice none 0 0) 25 (w.heap.size + 1) (by simp)
  have hb0 := hbel (.cells #[.int .i64 B, .slice da zs.length dc, .slice ca ps.length cc] 25) (.cells #[.int .i64 0, .slice none 0 0, .slice none 0 0] 25)
  clear hzl hsl hbel
  go_enter Try.func21, Try.ntmps21
  go_wp2_with fail
  refine (valid_any B _ zs ps _ (h.below hb0) hzl' (by omega) hel').mono ?_
  rintro e w1 ⟨rfl, hb1⟩
  have hX1 := hX.below hb1
  have hY1 := hY.below hb1
  have hs1 : w.heap.size + 1 + 1 ≤ w1.heap.size := by have := hb1.size; simpa using this
  have hbel1 := hb0.trans (hb1.mono hb0.size)
  obtain ⟨c0, c1, c2⟩ := hX1.cells
  clear hX hY hb1 hb0
  go_wp2_with fail
  refine (fresh_any B da ca dc cc zs ps _ (h.below hbel1) hok).mono ?_
  rintro e w2 ⟨u, g, g0, rfl, hg0, hgg, hu, hO, hb2⟩
  have hY2 := hY1.below hb2
  have hbel2 := hbel1.trans (hb2.mono hbel1.size)
  have hs2 := hb2.size
  obtain ⟨uc, rfl, huc⟩ := hu.form
  have hgl := hu.lt
  clear c0 c1 c2 hX1 hY1 hb2 hbel1
  have hb3 := belowA w2 (.cells #[.int .i64 B, .slice (some ⟨g, 0, none⟩) zs.length uc, .slice (some ⟨g0, 0, none⟩) ps.length ps.length] 25)
  have hP3 := Box3.made w2 (.int .i64 B) (.slice (some ⟨g, 0, none⟩) zs.length uc) (.slice (some ⟨g0, 0, none⟩) ps.length ps.length) 25 _ rfl
  have hO3 : POff (fun k => k = g ∨ k = w2.heap.size) _ _ ps := POff.of_own (hO.below hb3) (fun k h1 h2 => by omega)
  have hu3 := hu.below hb3
  have hY3 := hY2.below hb3
  have hbel3 := hbel2.trans (hb3.mono hbel2.size)
  clear hu hO hY2 hb3 hbel2
  go_wp2_with fail
  refine (flush_any w2.heap.size g B _ _ _ zs ps _ hP3 hu3 hO3 (by omega) hzl' (by omega) hfit).mono ?_
  rintro e w4 ⟨rfl, hP4, hu4, hF4⟩
  have hY4 : Box3 w4 (w.heap.size + 1) (.int .i64 0) (.slice none 0 0) (.slice none 0 0) 25 := (hF4.block _ hY3.lt (by omega)).trans hY3
  have hbel4 := hbel3.trans (hF4.below hbel3.size (fun k hk => by rcases hk with rfl | rfl <;> omega))
  obtain ⟨p0, p1, p2⟩ := hP4.cells
  obtain ⟨y0, y1, y2⟩ := hY4.cells
  have hfr := hY4.free
  have hend := res_end (r := w.heap.size + 1) hbel4 hu4 (by omega) (by omega) (by omega)
  clear hP3 hu3 hO3 hY3 hF4 hP4 hu4 hY4
  go_wp2
  refine bodyPost_ret (v := .tuple #[.agg #[.int .i64 B, .slice (some ⟨g, 0, none⟩) zs.length uc, .slice none 0 0], .int .i64 0]) (by simp [results, Try.results21, go_sem, y0, y1, y2]) rfl ?_
  rw [HSL.out]
  exact ⟨_, _, rfl, (hend _ _ _).1, (hend _ _ _).2⟩
end Go.Proofs.Ytbadedhliplkeaa
