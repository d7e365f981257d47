import Derived.Test.YtbadedhliplkeaaFl6
namespace Go.Proofs.Ytbadedhliplkeaa
open Go.RowKit

set_option maxHeartbeats 4000000 in
theorem specCrash_yes (ks : List Int) (ka : Option Addr) (kc : Nat) (B : Int) (da ca : Option Addr) (dc cc : Nat) (zs : List Int) (ps : List (Int × List Int)) (w : World) (h : DRead w (.agg #[.int .i64 B, .slice da zs.length dc, .slice ca ps.length cc]) B zs ps) (hcap : zs.length ≤ dc) (hok : dOK B zs ps = true) (hkv : Bts w (.slice ka ks.length kc) ks) (hkl : ks.length ≤ 1048576) :
    Calls Try.prog 30 #[.agg #[.int .i64 B, .slice da zs.length dc, .slice ca ps.length cc], .slice ka ks.length kc] w fun e w' => ∃ xa xc, e = .returned (.tuple #[.agg #[.int .i64 B, .slice xa (settle zs (keptTo false ks ps ps.length)).length xc, .slice none 0 0], .int .i64 0]) ∧ Own8 w.heap.size w'.heap.size w' (.slice xa (settle zs (keptTo false ks ps ps.length)).length xc) (settle zs (keptTo false ks ps ps.length)) ∧ Below w.heap.size w w' := by
  obtain ⟨hB1, hB2, hzl, hpl, hel⟩ := dOK_out hok
  have hzl' : zs.length ≤ 1048576 := by omega
  have hel' : ∀ i, (ps.getD i (0, [])).2.length ≤ 1048576 := fun i => by
    by_cases hi : i < ps.length
    · have := of_decide_eq_true (hel i hi); omega
    · simp [hi]
  have hX := (Box3.made w (.int .i64 B) (.slice da zs.length dc) (.slice ca ps.length cc) 25 _ rfl).alloc (.cells #[.int .i64 0, .slice none 0 0, .slice none 0 0] 25)
  have hY := Box3.made (w.alloc (.cells #[.int .i64 B, .slice da zs.length dc, .slice ca ps.length cc] 25)) (.int .i64 0) (.slice none 0 0) (.slice none 0 0) 25 (w.heap.size + 1) (by simp)
  have hb0 : Below w.heap.size w ((w.alloc (.cells #[.int .i64 B, .slice da zs.length dc, .slice ca ps.length cc] 25)).alloc (.cells #[.int .i64 0, .slice none 0 0, .slice none 0 0] 25)) := ((Below.refl w.heap.size w).alloc (Nat.le_refl _) _).alloc (by simp) _
  generalize hR : settle zs (keptTo false ks ps ps.length) = R
  have HR : Hid (settle zs (keptTo false ks ps ps.length) = R) := hR
  clear hzl hR
  go_enter Try.func30, Try.ntmps30
  go_wp2_with fail
  refine (l1Valid_any B _ zs ps _ (h.below hb0) hzl' (by omega) hel').mono ?_
  rintro e w1 ⟨rfl, hb1⟩
  have hX1 := hX.below hb1
  have hY1 := hY.below hb1
  have hs1 : w.heap.size + 1 + 1 ≤ w1.heap.size := by have := hb1.size; simpa using this
  have hbel1 := hb0.trans (hb1.mono hb0.size)
  obtain ⟨c0, c1, c2⟩ := hX1.cells
  clear hX hY hb1 hb0
  go_wp2_with fail
  go_region_held3 (fun w' => w'.cell? ⟨w.heap.size, 0, none⟩ = some (.int .i64 B) ∧ w'.cell? ⟨w.heap.size, 1, none⟩ = some (.slice da zs.length dc) ∧ w'.cell? ⟨w.heap.size, 2, none⟩ = some (.slice ca ps.length cc)) (first | go_keep | assumption | exact cells3_stored (by assumption) _ _ _)
    (first | (go_at_call 56; refine (settled_any false ks B da ca ka dc cc kc zs ps _ ?_ hcap hok ?_ hkl).mono ?_; exact (h.below hbel1).below (Below.refl _ _).drew; exact (hkv.below hbel1).below (Below.refl _ _).drew; rintro e w2 ⟨xa, xc, rfl, h2, hb2⟩; have hq := cells3_after hX1 hb2; have hYw := Box3.below (w := w1.drew) hY1 hb2; obtain ⟨y0, y1, y2⟩ := hYw.cells; have hfr := hYw.free))
  have hb3 : Below w.heap.size w w2 := hbel1.drew.trans (hb2.mono hbel1.size)
  rw [HR.out] at h2
  have hend := own_end (r := w.heap.size + 1) hbel1 h2 hb3 (by omega) (by omega)
  clear hq hfr hYw h2 hb2 hX1 hY1 c0 c1 c2
  go_wp2
  refine bodyPost_ret (v := .tuple #[.agg #[.int .i64 B, .slice xa R.length xc, .slice none 0 0], .int .i64 0]) (by simp [results, Try.results30, go_sem, y0, y1, y2, HR.out]) rfl ?_
  exact ⟨_, _, rfl, (hend _ _ _).1, (hend _ _ _).2⟩

set_option maxHeartbeats 1000000 in
theorem specFlush_no (B : Int) (da ca : Option Addr) (dc cc : Nat) (zs : List Int) (ps : List (Int × List Int)) (w : World) (h : DRead w (.agg #[.int .i64 B, .slice da zs.length dc, .slice ca ps.length cc]) B zs ps) (hzl' : zs.length ≤ 1048576) (hpl : ps.length ≤ 1048576) (hel' : ∀ i, (ps.getD i (0, [])).2.length ≤ 1048576) (hok : dOK B zs ps = false) :
    Calls Try.prog 29 #[.agg #[.int .i64 B, .slice da zs.length dc, .slice ca ps.length cc]] w fun e w' => e = .returned (.tuple #[.agg #[.int .i64 0, .slice none 0 0, .slice none 0 0], .int .i64 1]) ∧ Below w.heap.size w w' := by
  have hY := Box3.made (w.alloc (.cells #[.int .i64 B, .slice da zs.length dc, .slice ca ps.length cc] 25)) (.int .i64 0) (.slice none 0 0) (.slice none 0 0) 25 (w.heap.size + 1) (by simp)
  have hb0 : Below w.heap.size w ((w.alloc (.cells #[.int .i64 B, .slice da zs.length dc, .slice ca ps.length cc] 25)).alloc (.cells #[.int .i64 0, .slice none 0 0, .slice none 0 0] 25)) := ((Below.refl w.heap.size w).alloc (Nat.le_refl _) _).alloc (by simp) _
  go_enter Try.func29, Try.ntmps29
  go_wp2_with fail
  refine (l1Valid_any B _ zs ps _ (h.below hb0) hzl' hpl hel').mono ?_
  rintro e w1 ⟨rfl, hb1⟩
  have hY1 := hY.below hb1
  have hbel1 := hb0.trans (hb1.mono hb0.size)
  obtain ⟨y0, y1, y2⟩ := hY1.cells
  have hfr := hY1.free
  clear hY hb1 hb0 hY1
  have hend := fun x y z => ((hbel1.setCell (p := ⟨w.heap.size + 1, 0, none⟩) (by simp) x).setCell (p := ⟨w.heap.size + 1, 1, none⟩) (by simp) y).setCell (p := ⟨w.heap.size + 1, 2, none⟩) (by simp) z
  go_wp2
  exact bodyPost_ret (v := .tuple #[.agg #[.int .i64 0, .slice none 0 0, .slice none 0 0], .int .i64 1]) (by simp [results, Try.results29, go_sem, y0, y1, y2]) rfl ⟨rfl, hend _ _ _⟩

set_option maxHeartbeats 1000000 in
theorem specCrash_no (kv : Value) (B : Int) (da ca : Option Addr) (dc cc : Nat) (zs : List Int) (ps : List (Int × List Int)) (w : World) (h : DRead w (.agg #[.int .i64 B, .slice da zs.length dc, .slice ca ps.length cc]) B zs ps) (hzl' : zs.length ≤ 1048576) (hpl : ps.length ≤ 1048576) (hel' : ∀ i, (ps.getD i (0, [])).2.length ≤ 1048576) (hok : dOK B zs ps = false) :
    Calls Try.prog 30 #[.agg #[.int .i64 B, .slice da zs.length dc, .slice ca ps.length cc], kv] w fun e w' => e = .returned (.tuple #[.agg #[.int .i64 0, .slice none 0 0, .slice none 0 0], .int .i64 1]) ∧ Below w.heap.size w w' := by
  have hY := Box3.made (w.alloc (.cells #[.int .i64 B, .slice da zs.length dc, .slice ca ps.length cc] 25)) (.int .i64 0) (.slice none 0 0) (.slice none 0 0) 25 (w.heap.size + 1) (by simp)
  have hb0 : Below w.heap.size w ((w.alloc (.cells #[.int .i64 B, .slice da zs.length dc, .slice ca ps.length cc] 25)).alloc (.cells #[.int .i64 0, .slice none 0 0, .slice none 0 0] 25)) := ((Below.refl w.heap.size w).alloc (Nat.le_refl _) _).alloc (by simp) _
  go_enter Try.func30, Try.ntmps30
  go_wp2_with fail
  refine (l1Valid_any B _ zs ps _ (h.below hb0) hzl' hpl hel').mono ?_
  rintro e w1 ⟨rfl, hb1⟩
  have hY1 := hY.below hb1
  have hbel1 := hb0.trans (hb1.mono hb0.size)
  obtain ⟨y0, y1, y2⟩ := hY1.cells
  have hfr := hY1.free
  clear hY hb1 hb0 hY1
  have hend := fun x y z => ((hbel1.setCell (p := ⟨w.heap.size + 1, 0, none⟩) (by simp) x).setCell (p := ⟨w.heap.size + 1, 1, none⟩) (by simp) y).setCell (p := ⟨w.heap.size + 1, 2, none⟩) (by simp) z
  go_wp2
  exact bodyPost_ret (v := .tuple #[.agg #[.int .i64 0, .slice none 0 0, .slice none 0 0], .int .i64 1]) (by simp [results, Try.results30, go_sem, y0, y1, y2]) rfl ⟨rfl, hend _ _ _⟩

set_option maxHeartbeats 1000000 in
theorem implFlush_no (B : Int) (da ca : Option Addr) (dc cc : Nat) (zs : List Int) (ps : List (Int × List Int)) (w : World) (h : DRead w (.agg #[.int .i64 B, .slice da zs.length dc, .slice ca ps.length cc]) B zs ps) (hzl' : zs.length ≤ 1048576) (hpl : ps.length ≤ 1048576) (hel' : ∀ i, (ps.getD i (0, [])).2.length ≤ 1048576) (hok : dOK B zs ps = false) :
    Calls Try.prog 21 #[.agg #[.int .i64 B, .slice da zs.length dc, .slice ca ps.length cc]] w fun e w' => e = .returned (.tuple #[.agg #[.int .i64 0, .slice none 0 0, .slice none 0 0], .int .i64 1]) ∧ Below w.heap.size w w' := by
  have hY := Box3.made (w.alloc (.cells #[.int .i64 B, .slice da zs.length dc, .slice ca ps.length cc] 25)) (.int .i64 0) (.slice none 0 0) (.slice none 0 0) 25 (w.heap.size + 1) (by simp)
  have hb0 : Below w.heap.size w ((w.alloc (.cells #[.int .i64 B, .slice da zs.length dc, .slice ca ps.length cc] 25)).alloc (.cells #[.int .i64 0, .slice none 0 0, .slice none 0 0] 25)) := ((Below.refl w.heap.size w).alloc (Nat.le_refl _) _).alloc (by simp) _
  go_enter Try.func21, Try.ntmps21
  go_wp2_with fail
  refine (valid_any B _ zs ps _ (h.below hb0) hzl' hpl hel').mono ?_
  rintro e w1 ⟨rfl, hb1⟩
  have hY1 := hY.below hb1
  have hbel1 := hb0.trans (hb1.mono hb0.size)
  obtain ⟨y0, y1, y2⟩ := hY1.cells
  have hfr := hY1.free
  clear hY hb1 hb0 hY1
  have hend := fun x y z => ((hbel1.setCell (p := ⟨w.heap.size + 1, 0, none⟩) (by simp) x).setCell (p := ⟨w.heap.size + 1, 1, none⟩) (by simp) y).setCell (p := ⟨w.heap.size + 1, 2, none⟩) (by simp) z
  go_wp2
  exact bodyPost_ret (v := .tuple #[.agg #[.int .i64 0, .slice none 0 0, .slice none 0 0], .int .i64 1]) (by simp [results, Try.results21, go_sem, y0, y1, y2]) rfl ⟨rfl, hend _ _ _⟩

set_option maxHeartbeats 1000000 in
theorem implCrash_no (kv : Value) (B : Int) (da ca : Option Addr) (dc cc : Nat) (zs : List Int) (ps : List (Int × List Int)) (w : World) (h : DRead w (.agg #[.int .i64 B, .slice da zs.length dc, .slice ca ps.length cc]) B zs ps) (hzl' : zs.length ≤ 1048576) (hpl : ps.length ≤ 1048576) (hel' : ∀ i, (ps.getD i (0, [])).2.length ≤ 1048576) (hok : dOK B zs ps = false) :
    Calls Try.prog 22 #[.agg #[.int .i64 B, .slice da zs.length dc, .slice ca ps.length cc], kv] w fun e w' => e = .returned (.tuple #[.agg #[.int .i64 0, .slice none 0 0, .slice none 0 0], .int .i64 1]) ∧ Below w.heap.size w w' := by
  have hY := Box3.made (w.alloc (.cells #[.int .i64 B, .slice da zs.length dc, .slice ca ps.length cc] 25)) (.int .i64 0) (.slice none 0 0) (.slice none 0 0) 25 (w.heap.size + 1) (by simp)
  have hb0 : Below w.heap.size w ((w.alloc (.cells #[.int .i64 B, .slice da zs.length dc, .slice ca ps.length cc] 25)).alloc (.cells #[.int .i64 0, .slice none 0 0, .slice none 0 0] 25)) := ((Below.refl w.heap.size w).alloc (Nat.le_refl _) _).alloc (by simp) _
  go_enter Try.func22, Try.ntmps22
  go_wp2_with fail
  refine (valid_any B _ zs ps _ (h.below hb0) hzl' hpl hel').mono ?_
  rintro e w1 ⟨rfl, hb1⟩
  have hY1 := hY.below hb1
  have hbel1 := hb0.trans (hb1.mono hb0.size)
  obtain ⟨y0, y1, y2⟩ := hY1.cells
  have hfr := hY1.free
  clear hY hb1 hb0 hY1
  have hend := fun x y z => ((hbel1.setCell (p := ⟨w.heap.size + 1, 0, none⟩) (by simp) x).setCell (p := ⟨w.heap.size + 1, 1, none⟩) (by simp) y).setCell (p := ⟨w.heap.size + 1, 2, none⟩) (by simp) z
  go_wp2
  exact bodyPost_ret (v := .tuple #[.agg #[.int .i64 0, .slice none 0 0, .slice none 0 0], .int .i64 1]) (by simp [results, Try.results22, go_sem, y0, y1, y2]) rfl ⟨rfl, hend _ _ _⟩
end Go.Proofs.Ytbadedhliplkeaa
