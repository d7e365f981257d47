import Derived.Test.YtbadedhliplkeaaCr1
namespace Go.Proofs.Ytbadedhliplkeaa
open Go.RowKit

theorem crash_store {w w5 : World} {p g r : Nat} {x u c c' y0 y1 y2 : Value} {zs : List Int} {qs : List (Int × List Int)} {t s : TypeId} (hP : Box3 w5 p x u c t) (hu : RowAt w5 g u zs) (hO : POff (fun k => k = g ∨ k = p) w5 c' qs) (hY : Box3 w5 r y0 y1 y2 s) (hb : Below w.heap.size w w5) (h1 : p ≠ g) (h2 : r ≠ p) (h3 : w.heap.size ≤ p) :
    Box3 (w5.setCell ⟨p, 2, none⟩ c') p x u c' t ∧ RowAt (w5.setCell ⟨p, 2, none⟩ c') g u zs ∧ POff (fun k => k = g ∨ k = p) (w5.setCell ⟨p, 2, none⟩ c') c' qs ∧ Box3 (w5.setCell ⟨p, 2, none⟩ c') r y0 y1 y2 s ∧ Below w.heap.size w (w5.setCell ⟨p, 2, none⟩ c') := by
  have hF : Frm (fun k => k = g ∨ k = p) w5 (w5.setCell ⟨p, 2, none⟩ c') := (Frm.refl _ _).setCell (p := ⟨p, 2, none⟩) (Or.inr rfl) _
  refine ⟨?_, hu.block (Below.heap_setCell _ _ _ _ (fun e => h1 e.symm)), hO.frm hF, (Below.heap_setCell _ _ _ _ h2).trans hY, hb.setCell (p := ⟨p, 2, none⟩) h3 _⟩
  have := heap_setCell_same w5 p 2 _ t c' hP
  simpa [Box3] using this

set_option maxHeartbeats 4000000 in
theorem implCrash_yes (ks : List Int) (ka : Option Addr) (kc : Nat) (B : Int) (da ca : Option Addr) (dc cc : Nat) (zs : List Int) (ps : List (Int × List Int)) (w : World) (h : DRead w (.agg #[.int .i64 B, .slice da zs.length dc, .slice ca ps.length cc]) B zs ps) (hok : dOK B zs ps = true) (hkv : Bts w (.slice ka ks.length kc) ks) (hkl : ks.length ≤ 1048576) :
    Calls Try.prog 22 #[.agg #[.int .i64 B, .slice da zs.length dc, .slice ca ps.length cc], .slice ka ks.length kc] w fun e w' => ∃ xa xc, e = .returned (.tuple #[.agg #[.int .i64 B, .slice xa (settle zs (keptTo false ks ps ps.length)).length xc, .slice none 0 0], .int .i64 0]) ∧ Own8 w.heap.size w'.heap.size w' (.slice xa (settle zs (keptTo false ks ps ps.length)).length xc) (settle zs (keptTo false ks ps ps.length)) ∧ Below w.heap.size w w' := by
  obtain ⟨hB1, hB2, hzl, hpl, hel⟩ := dOK_out hok
  have hzl' : zs.length ≤ 1048576 := by omega
  have hel' : ∀ i, (ps.getD i (0, [])).2.length ≤ 1048576 := fun i => by
    by_cases hi : i < ps.length
    · have := of_decide_eq_true (hel i hi); omega
    · simp [hi]
  have hok2 := kept_ok (al := false) (ks := ks) hok
  have hfit := fits_of_ok hok2
  have hsl := kept_len false ks B zs ps hok
  have hql : (keptTo false ks ps ps.length).length ≤ 1048576 := by have := keptTo_length false ks ps ps.length; omega
  have HSL : Hid ((settle zs (keptTo false ks ps ps.length)).length = zs.length) := hsl
  have hbel := fun o1 o2 => ((Below.refl w.heap.size w).alloc (Nat.le_refl _) o1).alloc (by simp) o2
  have hX := (Box3.made w (.int .i64 B) (.slice da zs.length dc) (.slice ca ps.length cc) 25 _ rfl).alloc (.cells #[.int .i64 0, .slice none 0 0, .slice none 0 0] 25)
  have hY := Box3.made (w.alloc (.cells #[.int .i64 B, .slice da zs.length dc, .slice ca ps.length cc] 25)) (.int .i64 0) (.slice none 0 0) (.slice none 0 0) 25 (w.heap.size + 1) (by simp)
  have hb0 := hbel (.cells #[.int .i64 B, .slice da zs.length dc, .slice ca ps.length cc] 25) (.cells #[.int .i64 0, .slice none 0 0, .slice none 0 0] 25)
  clear hzl hsl hbel
  go_enter Try.func22, Try.ntmps22
  go_wp2_with fail
  refine (valid_any B _ zs ps _ (h.below hb0) hzl' (by omega) hel').mono ?_
  rintro e w1 ⟨rfl, hb1⟩
  have hX1 := hX.below hb1
  have hY1 := hY.below hb1
  have hs1 : w.heap.size + 1 + 1 ≤ w1.heap.size := by have := hb1.size; simpa using this
  have hbel1 := hb0.trans (hb1.mono hb0.size)
  obtain ⟨c0, c1, c2⟩ := hX1.cells
  clear hX hY hb1 hb0
  go_wp2_with fail
  refine (fresh_any B da ca dc cc zs ps _ (h.below hbel1) hok).mono ?_
  rintro e w2 ⟨u, g, g0, rfl, hg0, hgg, hu, hO, hb2⟩
  have hY2 := hY1.below hb2
  have hbel2 := hbel1.trans (hb2.mono hbel1.size)
  have hs2 := hb2.size
  obtain ⟨uc, rfl, huc⟩ := hu.form
  have hgl := hu.lt
  clear c0 c1 c2 hX1 hY1 hb2 hbel1
  have hb3 := belowA w2 (.cells #[.int .i64 B, .slice (some ⟨g, 0, none⟩) zs.length uc, .slice (some ⟨g0, 0, none⟩) ps.length ps.length] 25)
  have hP3 := Box3.made w2 (.int .i64 B) (.slice (some ⟨g, 0, none⟩) zs.length uc) (.slice (some ⟨g0, 0, none⟩) ps.length ps.length) 25 _ rfl
  have hO3 : POff (fun k => k = g ∨ k = w2.heap.size) _ _ ps := POff.of_own (hO.below hb3) (fun k h1 h2 => by omega)
  have hu3 := hu.below hb3
  have hY3 := hY2.below hb3
  have hbel3 := hbel2.trans (hb3.mono hbel2.size)
  clear hu hO hY2 hb3 hbel2
  have hkv3 := hkv.below hbel3
  go_wp2_with fail
  refine (survivors_any (fun k => k = g ∨ k = w2.heap.size) ks _ _ _ _ ps _ hO3 (fun k hk => by simp at hk; omega) hkv3 hkl hpl).mono ?_
  rintro e w5 ⟨qa, qc, rfl, hO5, hb5⟩
  have hP5 := hP3.below hb5
  have hu5 := hu3.below hb5
  have hY5 := hY3.below hb5
  have hbel5 := hbel3.trans (hb5.mono hbel3.size)
  obtain ⟨p0, p1, p2⟩ := hP5.cells
  have hpf := hP5.free
  have hst := crash_store hP5 hu5 hO5 hY5 hbel5 (by omega) (by omega) (by omega)
  obtain ⟨hP6, hu6, hO6, hY6, hbel6⟩ := hst
  have hgl6 := hu6.lt
  clear hP3 hu3 hO3 hY3 hkv3 hb5 hP5 hu5 hO5 hY5 hbel5 hbel3
  go_wp2_with fail
  refine (flush_any w2.heap.size g B _ _ _ zs (keptTo false ks ps ps.length) _ hP6 hu6 hO6 (by omega) hzl' hql hfit).mono ?_
  rintro e w4 ⟨rfl, hP4, hu4, hF4⟩
  clear p0 p1 p2 hpf
  have hY4 : Box3 w4 (w.heap.size + 1) (.int .i64 0) (.slice none 0 0) (.slice none 0 0) 25 := (hF4.block _ hY6.lt (by omega)).trans hY6
  have hbel4 := hbel6.trans (hF4.below hbel6.size (fun k hk => by rcases hk with rfl | rfl <;> omega))
  obtain ⟨p0, p1, p2⟩ := hP4.cells
  obtain ⟨y0, y1, y2⟩ := hY4.cells
  have hfr := hY4.free
  have hend := res_end (r := w.heap.size + 1) hbel4 hu4 (by omega) (by omega) (by omega)
  clear hP6 hu6 hO6 hY6 hF4 hP4 hu4 hY4
  go_wp2
  refine bodyPost_ret (v := .tuple #[.agg #[.int .i64 B, .slice (some ⟨g, 0, none⟩) zs.length uc, .slice none 0 0], .int .i64 0]) (by simp [results, Try.results22, go_sem, y0, y1, y2]) rfl ?_
  rw [HSL.out]
  exact ⟨_, _, rfl, (hend _ _ _).1, (hend _ _ _).2⟩
end Go.Proofs.Ytbadedhliplkeaa
