import Derived.Test.YtbadedhliplkeaaFl5
namespace Go.Proofs.Ytbadedhliplkeaa
open Go.RowKit

/-- what DevFlush and DevCrash answer -/
def fB (B : Int) (zs : List Int) (ps : List (Int × List Int)) : Int := if dOK B zs ps then B else 0
def fZ (al : Bool) (ks : List Int) (B : Int) (zs : List Int) (ps : List (Int × List Int)) : List Int := if dOK B zs ps then settle zs (keptTo al ks ps ps.length) else []
def fC (B : Int) (zs : List Int) (ps : List (Int × List Int)) : Int := if dOK B zs ps then 0 else 1

theorem kept_len (al : Bool) (ks : List Int) (B : Int) (zs : List Int) (ps : List (Int × List Int)) (hok : dOK B zs ps = true) : (settle zs (keptTo al ks ps ps.length)).length = zs.length := by
  have h2 := kept_ok (al := al) (ks := ks) hok
  have := settle_length zs (keptTo al ks ps ps.length) (fits_of_ok h2) (keptTo al ks ps ps.length).length (Nat.le_refl _)
  rwa [List.take_length] at this

theorem fZ_length (al : Bool) (ks : List Int) (B : Int) (zs : List Int) (ps : List (Int × List Int)) : (fZ al ks B zs ps).length ≤ 65536 := by
  unfold fZ
  split
  · rename_i hok
    obtain ⟨hB1, hB2, hzl, -⟩ := dOK_out hok
    rw [kept_len al ks B zs ps hok]; omega
  · simp

theorem cells3_after {w w1 : World} {g : Nat} {x0 x1 x2 : Value} {t : TypeId} (hX : Box3 w g x0 x1 x2 t) (hb : Below w.drew.heap.size w.drew w1) : w1.cell? ⟨g, 0, none⟩ = some x0 ∧ w1.cell? ⟨g, 1, none⟩ = some x1 ∧ w1.cell? ⟨g, 2, none⟩ = some x2 :=
  (Box3.below (w := w.drew) hX hb).cells

theorem cells3_stored {w1 : World} {h : Nat} {x y s : Value} (hq : w1.cell? ⟨h, 0, none⟩ = some x ∧ w1.cell? ⟨h, 1, none⟩ = some y ∧ w1.cell? ⟨h, 2, none⟩ = some s) (u v z : Value) :
    (((w1.setCell ⟨h + 1, 0, none⟩ u).setCell ⟨h + 1, 1, none⟩ v).setCell ⟨h + 1, 2, none⟩ z).cell? ⟨h, 0, none⟩ = some x ∧ (((w1.setCell ⟨h + 1, 0, none⟩ u).setCell ⟨h + 1, 1, none⟩ v).setCell ⟨h + 1, 2, none⟩ z).cell? ⟨h, 1, none⟩ = some y ∧ (((w1.setCell ⟨h + 1, 0, none⟩ u).setCell ⟨h + 1, 1, none⟩ v).setCell ⟨h + 1, 2, none⟩ z).cell? ⟨h, 2, none⟩ = some s := by
  refine ⟨?_, ?_, ?_⟩
  · rw [World.cell?_setCell_other _ _ _ _ (by simp), World.cell?_setCell_other _ _ _ _ (by simp), World.cell?_setCell_other _ _ _ _ (by simp)]; exact hq.1
  · rw [World.cell?_setCell_other _ _ _ _ (by simp), World.cell?_setCell_other _ _ _ _ (by simp), World.cell?_setCell_other _ _ _ _ (by simp)]; exact hq.2.1
  · rw [World.cell?_setCell_other _ _ _ _ (by simp), World.cell?_setCell_other _ _ _ _ (by simp), World.cell?_setCell_other _ _ _ _ (by simp)]; exact hq.2.2

theorem own_end {w w1 w2 : World} {r : Nat} {u : Value} {zs : List Int} (hb1 : Below w.heap.size w w1) (h2 : Own8 w1.heap.size w2.heap.size w2 u zs) (hb2 : Below w.heap.size w w2) (h3 : w.heap.size ≤ r) (h4 : r < w1.heap.size) (x y z : Value) :
    Own8 w.heap.size (((w2.setCell ⟨r, 0, none⟩ x).setCell ⟨r, 1, none⟩ y).setCell ⟨r, 2, none⟩ z).heap.size (((w2.setCell ⟨r, 0, none⟩ x).setCell ⟨r, 1, none⟩ y).setCell ⟨r, 2, none⟩ z) u zs ∧
      Below w.heap.size w (((w2.setCell ⟨r, 0, none⟩ x).setCell ⟨r, 1, none⟩ y).setCell ⟨r, 2, none⟩ z) := by
  have u1 : Upd r (r + 1) w2 (w2.setCell ⟨r, 0, none⟩ x) := (Upd.refl _ _ _).setCell (p := ⟨r, 0, none⟩) (Nat.le_refl _) (Nat.lt_succ_self _) x
  have u2 := u1.setCell (p := ⟨r, 1, none⟩) (Nat.le_refl _) (Nat.lt_succ_self _) y
  have u3 := u2.setCell (p := ⟨r, 2, none⟩) (Nat.le_refl _) (Nat.lt_succ_self _) z
  exact ⟨(h2.upd u3 (by omega)).wider hb1.size (by simp), hb2.trans (u3.below h3 hb2.size)⟩

set_option maxHeartbeats 4000000 in
theorem specFlush_yes (B : Int) (da ca : Option Addr) (dc cc : Nat) (zs : List Int) (ps : List (Int × List Int)) (w : World) (h : DRead w (.agg #[.int .i64 B, .slice da zs.length dc, .slice ca ps.length cc]) B zs ps) (hcap : zs.length ≤ dc) (hok : dOK B zs ps = true) :
    Calls Try.prog 29 #[.agg #[.int .i64 B, .slice da zs.length dc, .slice ca ps.length cc]] w fun e w' => ∃ xa xc, e = .returned (.tuple #[.agg #[.int .i64 B, .slice xa (settle zs (keptTo true [] ps ps.length)).length xc, .slice none 0 0], .int .i64 0]) ∧ Own8 w.heap.size w'.heap.size w' (.slice xa (settle zs (keptTo true [] ps ps.length)).length xc) (settle zs (keptTo true [] ps ps.length)) ∧ Below w.heap.size w w' := by
  obtain ⟨hB1, hB2, hzl, hpl, hel⟩ := dOK_out hok
  have hzl' : zs.length ≤ 1048576 := by omega
  have hel' : ∀ i, (ps.getD i (0, [])).2.length ≤ 1048576 := fun i => by
    by_cases hi : i < ps.length
    · have := of_decide_eq_true (hel i hi); omega
    · simp [hi]
  have hX := (Box3.made w (.int .i64 B) (.slice da zs.length dc) (.slice ca ps.length cc) 25 _ rfl).alloc (.cells #[.int .i64 0, .slice none 0 0, .slice none 0 0] 25)
  have hY := Box3.made (w.alloc (.cells #[.int .i64 B, .slice da zs.length dc, .slice ca ps.length cc] 25)) (.int .i64 0) (.slice none 0 0) (.slice none 0 0) 25 (w.heap.size + 1) (by simp)
  have hb0 : Below w.heap.size w ((w.alloc (.cells #[.int .i64 B, .slice da zs.length dc, .slice ca ps.length cc] 25)).alloc (.cells #[.int .i64 0, .slice none 0 0, .slice none 0 0] 25)) := ((Below.refl w.heap.size w).alloc (Nat.le_refl _) _).alloc (by simp) _
  generalize hR : settle zs (keptTo true [] ps ps.length) = R
  have HR : Hid (settle zs (keptTo true [] ps ps.length) = R) := hR
  clear hzl hR
  go_enter Try.func29, Try.ntmps29
  go_wp2_with fail
  refine (l1Valid_any B _ zs ps _ (h.below hb0) hzl' (by omega) hel').mono ?_
  rintro e w1 ⟨rfl, hb1⟩
  have hX1 := hX.below hb1
  have hY1 := hY.below hb1
  have hs1 : w.heap.size + 1 + 1 ≤ w1.heap.size := by have := hb1.size; simpa using this
  have hbel1 := hb0.trans (hb1.mono hb0.size)
  obtain ⟨c0, c1, c2⟩ := hX1.cells
  clear hX hY hb1 hb0
  go_wp2_with fail
  go_region_held3 (fun w' => w'.cell? ⟨w.heap.size, 0, none⟩ = some (.int .i64 B) ∧ w'.cell? ⟨w.heap.size, 1, none⟩ = some (.slice da zs.length dc) ∧ w'.cell? ⟨w.heap.size, 2, none⟩ = some (.slice ca ps.length cc)) (first | go_keep | assumption | exact cells3_stored (by assumption) _ _ _)
    (first | (go_at_call 56; refine (settled_any true [] B da ca none dc cc 0 zs ps _ ?_ hcap hok ?_ (by simp)).mono ?_; exact (h.below hbel1).below (Below.refl _ _).drew; exact (Own8.empty 0 0 _ none 0).bts; rintro e w2 ⟨xa, xc, rfl, h2, hb2⟩; have hq := cells3_after hX1 hb2; have hYw := Box3.below (w := w1.drew) hY1 hb2; obtain ⟨y0, y1, y2⟩ := hYw.cells; have hfr := hYw.free))
  have hb3 : Below w.heap.size w w2 := hbel1.drew.trans (hb2.mono hbel1.size)
  rw [HR.out] at h2
  have hend := own_end (r := w.heap.size + 1) hbel1 h2 hb3 (by omega) (by omega)
  clear hq hfr hYw h2 hb2 hX1 hY1 c0 c1 c2
  go_wp2
  refine bodyPost_ret (v := .tuple #[.agg #[.int .i64 B, .slice xa R.length xc, .slice none 0 0], .int .i64 0]) (by simp [results, Try.results29, go_sem, y0, y1, y2, HR.out]) rfl ?_
  exact ⟨_, _, rfl, (hend _ _ _).1, (hend _ _ _).2⟩
end Go.Proofs.Ytbadedhliplkeaa
