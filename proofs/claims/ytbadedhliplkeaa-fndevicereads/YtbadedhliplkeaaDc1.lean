import Derived.Test.YtbadedhliplkeaaDlM
import Derived.Test.YtbadedhliplkeaaCr2
namespace Go.Proofs.Ytbadedhliplkeaa
open Go.RowKit
set_option linter.unusedVariables false

set_option maxHeartbeats 4000000 in
theorem implWrite_c (q : Int) (ea : Option Addr) (ec : Nat) (ds : List Int) (B : Int) (da ca : Option Addr) (dc cc : Nat) (zs : List Int) (ps : List (Int × List Int)) (w : World) (h : DRead w (.agg #[.int .i64 B, .slice da zs.length dc, .slice ca ps.length cc]) B zs ps) (hok : dOK B zs ps = true) (hv : Bts w (.slice ea ds.length ec) ds) (hd : ds.length ≤ 1048576) :
    Calls Try.prog 19 #[.agg #[.int .i64 B, .slice da zs.length dc, .slice ca ps.length cc], .int .i64 q, .slice ea ds.length ec] w fun e w' => ∃ xa xc ya yc, e = .returned (.tuple #[.agg #[.int .i64 B, .slice xa zs.length xc, .slice ya (wP B ps q ds).length yc], .int .i64 (wC B ps.length q ds.length)]) ∧ DOwnX w.heap.size w'.heap.size w' (.agg #[.int .i64 B, .slice xa zs.length xc, .slice ya (wP B ps q ds).length yc]) B zs (wP B ps q ds) ∧ Below w.heap.size w w' ∧ zs.length ≤ xc := by
  obtain ⟨hB1, hB2, hzl, hpl, hel⟩ := dOK_out hok
  have hzl' : zs.length ≤ 1048576 := by omega
  have hel' : ∀ i, (ps.getD i (0, [])).2.length ≤ 1048576 := fun i => by
    by_cases hi : i < ps.length
    · have := of_decide_eq_true (hel i hi); omega
    · simp [hi]
  have hbel := fun o1 o2 => ((Below.refl w.heap.size w).alloc (Nat.le_refl _) o1).alloc (by simp) o2
  have hX := (Box3.made w (.int .i64 B) (.slice da zs.length dc) (.slice ca ps.length cc) 25 _ rfl).alloc (.cells #[.int .i64 0, .slice none 0 0, .slice none 0 0] 25)
  have hY := Box3.made (w.alloc (.cells #[.int .i64 B, .slice da zs.length dc, .slice ca ps.length cc] 25)) (.int .i64 0) (.slice none 0 0) (.slice none 0 0) 25 (w.heap.size + 1) (by simp)
  have hb0 := hbel (.cells #[.int .i64 B, .slice da zs.length dc, .slice ca ps.length cc] 25) (.cells #[.int .i64 0, .slice none 0 0, .slice none 0 0] 25)
  clear hzl hbel
  go_enter Try.func19, Try.ntmps19
  go_wp2_with fail
  refine (valid_any B _ zs ps _ (h.below hb0) hzl' (by omega) hel').mono ?_
  rintro e w1 ⟨rfl, hb1⟩
  have hX1 := hX.below hb1
  have hY1 := hY.below hb1
  have hs1 : w.heap.size + 1 + 1 ≤ w1.heap.size := by have := hb1.size; simpa using this
  have hbel1 := hb0.trans (hb1.mono hb0.size)
  obtain ⟨c0, c1, c2⟩ := hX1.cells
  clear hX hY hb1 hb0
  go_wp2_with fail
  refine (fresh_row B da ca dc cc zs ps _ (h.below hbel1) hok).mono ?_
  rintro e w2 ⟨u, g, g0, rfl, hg0, hgg, hu, hO, hb2, cur, hsp, hcs⟩
  have hY2 := hY1.below hb2
  have hbel2 := hbel1.trans (hb2.mono hbel1.size)
  have hs2 := hb2.size
  obtain ⟨uc, rfl, huc⟩ := hu.form
  have hgl := hu.lt
  have hR2 : PRow (fun k => g0 ≤ k ∧ k ≠ g ∧ k ≠ w2.heap.size) w2 _ ps := PRow.of_own hO hsp hcs (by omega) (fun k k1 k2 => ⟨k1, by omega, by omega⟩) hgg
  clear c0 c1 c2 hX1 hY1 hb2 hbel1 hO hsp hcs
  have hb3 := belowA w2 (.cells #[.int .i64 B, .slice (some ⟨g, 0, none⟩) zs.length uc, .slice (some ⟨g0, 0, none⟩) ps.length ps.length] 25)
  have hP3 := Box3.made w2 (.int .i64 B) (.slice (some ⟨g, 0, none⟩) zs.length uc) (.slice (some ⟨g0, 0, none⟩) ps.length ps.length) 25 _ rfl
  have hR3 := hR2.below hb3
  have hu3 := hu.below hb3
  have hY3 := hY2.below hb3
  have hbel3 := hbel2.trans (hb3.mono hbel2.size)
  have hv3 := hv.below hbel3
  clear hu hR2 hY2 hb3 hbel2
  go_wp2_with fail
  refine (write_any (fun k => g0 ≤ k ∧ k ≠ g ∧ k ≠ w2.heap.size) w2.heap.size B q _ _ ea ec ds ps _ hP3 hR3 (by omega) (fun k hk => by simp at hk; omega) (by omega) (by omega) hd (by omega) hv3).mono ?_
  rintro e w4 ⟨c', rfl, hP4, hR4, hF4⟩
  obtain ⟨wa, wc, rfl⟩ := hR4.form
  have hY4 : Box3 w4 (w.heap.size + 1) (.int .i64 0) (.slice none 0 0) (.slice none 0 0) 25 := (hF4.block _ hY3.lt (by omega)).trans hY3
  have hu4 := hu3.block (hF4.block g hu3.lt (by omega))
  have hbel4 := hbel3.trans (hF4.below hbel3.size (fun k hk => by omega))
  obtain ⟨p0, p1, p2⟩ := hP4.cells
  obtain ⟨y0, y1, y2⟩ := hY4.cells
  have hfr := hY4.free
  have hend := res_endX (B := B) (r := w.heap.size + 1) hbel4 hu4 hR4 (fun k hk => by omega) (by omega) (by omega) (by omega)
  clear hP3 hu3 hR3 hY3 hF4 hP4 hu4 hR4 hY4 hv3
  go_wp2
  refine bodyPost_ret (v := .tuple #[.agg #[.int .i64 B, .slice (some ⟨g, 0, none⟩) zs.length uc, .slice wa (wP B ps q ds).length wc], .int .i64 (wC B ps.length q ds.length)]) (by simp [results, Try.results19, go_sem, y0, y1, y2]) rfl ?_
  exact ⟨_, _, _, _, rfl, (hend _ _ _).1, (hend _ _ _).2, huc⟩

set_option maxHeartbeats 4000000 in
theorem implFlush_c (B : Int) (da ca : Option Addr) (dc cc : Nat) (zs : List Int) (ps : List (Int × List Int)) (w : World) (h : DRead w (.agg #[.int .i64 B, .slice da zs.length dc, .slice ca ps.length cc]) B zs ps) (hok : dOK B zs ps = true) :
    Calls Try.prog 21 #[.agg #[.int .i64 B, .slice da zs.length dc, .slice ca ps.length cc]] w fun e w' => ∃ xa xc, e = .returned (.tuple #[.agg #[.int .i64 B, .slice xa (settle zs ps).length xc, .slice none 0 0], .int .i64 0]) ∧ Own8 w.heap.size w'.heap.size w' (.slice xa (settle zs ps).length xc) (settle zs ps) ∧ Below w.heap.size w w' ∧ (settle zs ps).length ≤ xc := by
  obtain ⟨hB1, hB2, hzl, hpl, hel⟩ := dOK_out hok
  have hzl' : zs.length ≤ 1048576 := by omega
  have hel' : ∀ i, (ps.getD i (0, [])).2.length ≤ 1048576 := fun i => by
    by_cases hi : i < ps.length
    · have := of_decide_eq_true (hel i hi); omega
    · simp [hi]
  have hfit := fits_of_ok hok
  have hsl := settle_length zs ps hfit ps.length (Nat.le_refl _)
  rw [List.take_length] at hsl
  have HSL : Hid ((settle zs ps).length = zs.length) := hsl
  have hbel := fun o1 o2 => ((Below.refl w.heap.size w).alloc (Nat.le_refl _) o1).alloc (by simp) o2
  have hX := (Box3.made w (.int .i64 B) (.slice da zs.length dc) (.slice ca ps.length cc) 25 _ rfl).alloc (.cells #[.int .i64 0, .slice none 0 0, .slice none 0 0] 25)
  have hY := Box3.made (w.alloc (.cells #[.int .i64 B, .slice da zs.length dc, .slice ca ps.length cc] 25)) (.int .i64 0) (.slice none 0 0) (.slice none 0 0) 25 (w.heap.size + 1) (by simp)
  have hb0 := hbel (.cells #[.int .i64 B, .slice da zs.length dc, .slice ca ps.length cc] 25) (.cells #[.int .i64 0, .slice none 0 0, .slice none 0 0] 25)
  clear hzl hsl hbel
  go_enter Try.func21, Try.ntmps21
  go_wp2_with fail
  refine (valid_any B _ zs ps _ (h.below hb0) hzl' (by omega) hel').mono ?_
  rintro e w1 ⟨rfl, hb1⟩
  have hX1 := hX.below hb1
  have hY1 := hY.below hb1
  have hs1 : w.heap.size + 1 + 1 ≤ w1.heap.size := by have := hb1.size; simpa using this
  have hbel1 := hb0.trans (hb1.mono hb0.size)
  obtain ⟨c0, c1, c2⟩ := hX1.cells
  clear hX hY hb1 hb0
  go_wp2_with fail
  refine (fresh_any B da ca dc cc zs ps _ (h.below hbel1) hok).mono ?_
  rintro e w2 ⟨u, g, g0, rfl, hg0, hgg, hu, hO, hb2⟩
  have hY2 := hY1.below hb2
  have hbel2 := hbel1.trans (hb2.mono hbel1.size)
  have hs2 := hb2.size
  obtain ⟨uc, rfl, huc⟩ := hu.form
  have hgl := hu.lt
  clear c0 c1 c2 hX1 hY1 hb2 hbel1
  have hb3 := belowA w2 (.cells #[.int .i64 B, .slice (some ⟨g, 0, none⟩) zs.length uc, .slice (some ⟨g0, 0, none⟩) ps.length ps.length] 25)
  have hP3 := Box3.made w2 (.int .i64 B) (.slice (some ⟨g, 0, none⟩) zs.length uc) (.slice (some ⟨g0, 0, none⟩) ps.length ps.length) 25 _ rfl
  have hO3 : POff (fun k => k = g ∨ k = w2.heap.size) _ _ ps := POff.of_own (hO.below hb3) (fun k h1 h2 => by omega)
  have hu3 := hu.below hb3
  have hY3 := hY2.below hb3
  have hbel3 := hbel2.trans (hb3.mono hbel2.size)
  clear hu hO hY2 hb3 hbel2
  go_wp2_with fail
  refine (flush_any w2.heap.size g B _ _ _ zs ps _ hP3 hu3 hO3 (by omega) hzl' (by omega) hfit).mono ?_
  rintro e w4 ⟨rfl, hP4, hu4, hF4⟩
  have hY4 : Box3 w4 (w.heap.size + 1) (.int .i64 0) (.slice none 0 0) (.slice none 0 0) 25 := (hF4.block _ hY3.lt (by omega)).trans hY3
  have hbel4 := hbel3.trans (hF4.below hbel3.size (fun k hk => by rcases hk with rfl | rfl <;> omega))
  obtain ⟨p0, p1, p2⟩ := hP4.cells
  obtain ⟨y0, y1, y2⟩ := hY4.cells
  have hfr := hY4.free
  have hend := res_end (r := w.heap.size + 1) hbel4 hu4 (by omega) (by omega) (by omega)
  clear hP3 hu3 hO3 hY3 hF4 hP4 hu4 hY4
  go_wp2
  refine bodyPost_ret (v := .tuple #[.agg #[.int .i64 B, .slice (some ⟨g, 0, none⟩) zs.length uc, .slice none 0 0], .int .i64 0]) (by simp [results, Try.results21, go_sem, y0, y1, y2]) rfl ?_
  rw [HSL.out]
  exact ⟨_, _, rfl, (hend _ _ _).1, (hend _ _ _).2, huc⟩

set_option maxHeartbeats 4000000 in
theorem implCrash_c (ks : List Int) (ka : Option Addr) (kc : Nat) (B : Int) (da ca : Option Addr) (dc cc : Nat) (zs : List Int) (ps : List (Int × List Int)) (w : World) (h : DRead w (.agg #[.int .i64 B, .slice da zs.length dc, .slice ca ps.length cc]) B zs ps) (hok : dOK B zs ps = true) (hkv : Bts w (.slice ka ks.length kc) ks) (hkl : ks.length ≤ 1048576) :
    Calls Try.prog 22 #[.agg #[.int .i64 B, .slice da zs.length dc, .slice ca ps.length cc], .slice ka ks.length kc] w fun e w' => ∃ xa xc, e = .returned (.tuple #[.agg #[.int .i64 B, .slice xa (settle zs (keptTo false ks ps ps.length)).length xc, .slice none 0 0], .int .i64 0]) ∧ Own8 w.heap.size w'.heap.size w' (.slice xa (settle zs (keptTo false ks ps ps.length)).length xc) (settle zs (keptTo false ks ps ps.length)) ∧ Below w.heap.size w w' ∧ (settle zs (keptTo false ks ps ps.length)).length ≤ xc := by
  obtain ⟨hB1, hB2, hzl, hpl, hel⟩ := dOK_out hok
  have hzl' : zs.length ≤ 1048576 := by omega
  have hel' : ∀ i, (ps.getD i (0, [])).2.length ≤ 1048576 := fun i => by
    by_cases hi : i < ps.length
    · have := of_decide_eq_true (hel i hi); omega
    · simp [hi]
  have hok2 := kept_ok (al := false) (ks := ks) hok
  have hfit := fits_of_ok hok2
  have hsl := kept_len false ks B zs ps hok
  have hql : (keptTo false ks ps ps.length).length ≤ 1048576 := by have := keptTo_length false ks ps ps.length; omega
  have HSL : Hid ((settle zs (keptTo false ks ps ps.length)).length = zs.length) := hsl
  have hbel := fun o1 o2 => ((Below.refl w.heap.size w).alloc (Nat.le_refl _) o1).alloc (by simp) o2
  have hX := (Box3.made w (.int .i64 B) (.slice da zs.length dc) (.slice ca ps.length cc) 25 _ rfl).alloc (.cells #[.int .i64 0, .slice none 0 0, .slice none 0 0] 25)
  have hY := Box3.made (w.alloc (.cells #[.int .i64 B, .slice da zs.length dc, .slice ca ps.length cc] 25)) (.int .i64 0) (.slice none 0 0) (.slice none 0 0) 25 (w.heap.size + 1) (by simp)
  have hb0 := hbel (.cells #[.int .i64 B, .slice da zs.length dc, .slice ca ps.length cc] 25) (.cells #[.int .i64 0, .slice none 0 0, .slice none 0 0] 25)
  clear hzl hsl hbel
  go_enter Try.func22, Try.ntmps22
  go_wp2_with fail
  refine (valid_any B _ zs ps _ (h.below hb0) hzl' (by omega) hel').mono ?_
  rintro e w1 ⟨rfl, hb1⟩
  have hX1 := hX.below hb1
  have hY1 := hY.below hb1
  have hs1 : w.heap.size + 1 + 1 ≤ w1.heap.size := by have := hb1.size; simpa using this
  have hbel1 := hb0.trans (hb1.mono hb0.size)
  obtain ⟨c0, c1, c2⟩ := hX1.cells
  clear hX hY hb1 hb0
  go_wp2_with fail
  refine (fresh_any B da ca dc cc zs ps _ (h.below hbel1) hok).mono ?_
  rintro e w2 ⟨u, g, g0, rfl, hg0, hgg, hu, hO, hb2⟩
  have hY2 := hY1.below hb2
  have hbel2 := hbel1.trans (hb2.mono hbel1.size)
  have hs2 := hb2.size
  obtain ⟨uc, rfl, huc⟩ := hu.form
  have hgl := hu.lt
  clear c0 c1 c2 hX1 hY1 hb2 hbel1
  have hb3 := belowA w2 (.cells #[.int .i64 B, .slice (some ⟨g, 0, none⟩) zs.length uc, .slice (some ⟨g0, 0, none⟩) ps.length ps.length] 25)
  have hP3 := Box3.made w2 (.int .i64 B) (.slice (some ⟨g, 0, none⟩) zs.length uc) (.slice (some ⟨g0, 0, none⟩) ps.length ps.length) 25 _ rfl
  have hO3 : POff (fun k => k = g ∨ k = w2.heap.size) _ _ ps := POff.of_own (hO.below hb3) (fun k h1 h2 => by omega)
  have hu3 := hu.below hb3
  have hY3 := hY2.below hb3
  have hbel3 := hbel2.trans (hb3.mono hbel2.size)
  clear hu hO hY2 hb3 hbel2
  have hkv3 := hkv.below hbel3
  go_wp2_with fail
  refine (survivors_any (fun k => k = g ∨ k = w2.heap.size) ks _ _ _ _ ps _ hO3 (fun k hk => by simp at hk; omega) hkv3 hkl hpl).mono ?_
  rintro e w5 ⟨qa, qc, rfl, hO5, hb5⟩
  have hP5 := hP3.below hb5
  have hu5 := hu3.below hb5
  have hY5 := hY3.below hb5
  have hbel5 := hbel3.trans (hb5.mono hbel3.size)
  obtain ⟨p0, p1, p2⟩ := hP5.cells
  have hpf := hP5.free
  have hst := crash_store hP5 hu5 hO5 hY5 hbel5 (by omega) (by omega) (by omega)
  obtain ⟨hP6, hu6, hO6, hY6, hbel6⟩ := hst
  have hgl6 := hu6.lt
  clear hP3 hu3 hO3 hY3 hkv3 hb5 hP5 hu5 hO5 hY5 hbel5 hbel3
  go_wp2_with fail
  refine (flush_any w2.heap.size g B _ _ _ zs (keptTo false ks ps ps.length) _ hP6 hu6 hO6 (by omega) hzl' hql hfit).mono ?_
  rintro e w4 ⟨rfl, hP4, hu4, hF4⟩
  clear p0 p1 p2 hpf
  have hY4 : Box3 w4 (w.heap.size + 1) (.int .i64 0) (.slice none 0 0) (.slice none 0 0) 25 := (hF4.block _ hY6.lt (by omega)).trans hY6
  have hbel4 := hbel6.trans (hF4.below hbel6.size (fun k hk => by rcases hk with rfl | rfl <;> omega))
  obtain ⟨p0, p1, p2⟩ := hP4.cells
  obtain ⟨y0, y1, y2⟩ := hY4.cells
  have hfr := hY4.free
  have hend := res_end (r := w.heap.size + 1) hbel4 hu4 (by omega) (by omega) (by omega)
  clear hP6 hu6 hO6 hY6 hF4 hP4 hu4 hY4
  go_wp2
  refine bodyPost_ret (v := .tuple #[.agg #[.int .i64 B, .slice (some ⟨g, 0, none⟩) zs.length uc, .slice none 0 0], .int .i64 0]) (by simp [results, Try.results22, go_sem, y0, y1, y2]) rfl ?_
  rw [HSL.out]
  exact ⟨_, _, rfl, (hend _ _ _).1, (hend _ _ _).2, huc⟩

end Go.Proofs.Ytbadedhliplkeaa
