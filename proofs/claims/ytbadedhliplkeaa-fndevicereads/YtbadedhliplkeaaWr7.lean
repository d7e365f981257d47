import Derived.Test.YtbadedhliplkeaaWr6
namespace Go.Proofs.Ytbadedhliplkeaa
open Go.RowKit
set_option linter.unusedVariables false

set_option maxHeartbeats 1000000 in
theorem specWrite_no (kq kv : Value) (B : Int) (da ca : Option Addr) (dc cc : Nat) (zs : List Int) (ps : List (Int × List Int)) (w : World) (h : DRead w (.agg #[.int .i64 B, .slice da zs.length dc, .slice ca ps.length cc]) B zs ps) (hzl' : zs.length ≤ 1048576) (hpl : ps.length ≤ 1048576) (hel' : ∀ i, (ps.getD i (0, [])).2.length ≤ 1048576) (hok : dOK B zs ps = false) :
    Calls Try.prog 18 #[.agg #[.int .i64 B, .slice da zs.length dc, .slice ca ps.length cc], kq, kv] w fun e w' => e = .returned (.tuple #[.agg #[.int .i64 0, .slice none 0 0, .slice none 0 0], .int .i64 1]) ∧ Below w.heap.size w w' := by
  have hY := Box3.made (w.alloc (.cells #[.int .i64 B, .slice da zs.length dc, .slice ca ps.length cc] 25)) (.int .i64 0) (.slice none 0 0) (.slice none 0 0) 25 (w.heap.size + 1) (by simp)
  have hb0 : Below w.heap.size w ((w.alloc (.cells #[.int .i64 B, .slice da zs.length dc, .slice ca ps.length cc] 25)).alloc (.cells #[.int .i64 0, .slice none 0 0, .slice none 0 0] 25)) := ((Below.refl w.heap.size w).alloc (Nat.le_refl _) _).alloc (by simp) _
  go_enter Try.func18, Try.ntmps18
  go_wp2_with fail
  refine (l1Valid_any B _ zs ps _ (h.below hb0) hzl' hpl hel').mono ?_
  rintro e w1 ⟨rfl, hb1⟩
  have hY1 := hY.below hb1
  have hbel1 := hb0.trans (hb1.mono hb0.size)
  obtain ⟨y0, y1, y2⟩ := hY1.cells
  have hfr := hY1.free
  clear hY hb1 hb0 hY1
  have hend := fun x y z => ((hbel1.setCell (p := ⟨w.heap.size + 1, 0, none⟩) (by simp) x).setCell (p := ⟨w.heap.size + 1, 1, none⟩) (by simp) y).setCell (p := ⟨w.heap.size + 1, 2, none⟩) (by simp) z
  go_wp2
  exact bodyPost_ret (v := .tuple #[.agg #[.int .i64 0, .slice none 0 0, .slice none 0 0], .int .i64 1]) (by simp [results, Try.results18, go_sem, y0, y1, y2]) rfl ⟨rfl, hend _ _ _⟩

theorem specWrite_any (q : Int) (ea : Option Addr) (ec : Nat) (ds : List Int) (B : Int) (da ca : Option Addr) (dc cc : Nat) (zs : List Int) (ps : List (Int × List Int)) (w : World) (hR : DRead w (.agg #[.int .i64 B, .slice da zs.length dc, .slice ca ps.length cc]) B zs ps) (hcap : zs.length ≤ dc) (hzl : zs.length ≤ 1048576) (hpl : ps.length ≤ 1048576) (hel : ∀ i, (ps.getD i (0, [])).2.length ≤ 1048576) (hv : Bts w (.slice ea ds.length ec) ds) (hd : ds.length ≤ 1048576) :
    Calls Try.prog 18 #[.agg #[.int .i64 B, .slice da zs.length dc, .slice ca ps.length cc], .int .i64 q, .slice ea ds.length ec] w fun e w' => ∃ xa xc ya yc, e = .returned (.tuple #[.agg #[.int .i64 (gB B zs ps), .slice xa (gZ B zs ps).length xc, .slice ya (gP q ds B zs ps).length yc], .int .i64 (gC q ds B zs ps)]) ∧ DOwnX w.heap.size w'.heap.size w' (.agg #[.int .i64 (gB B zs ps), .slice xa (gZ B zs ps).length xc, .slice ya (gP q ds B zs ps).length yc]) (gB B zs ps) (gZ B zs ps) (gP q ds B zs ps) ∧ Below w.heap.size w w' := by
  cases hok : dOK B zs ps with
  | true =>
    simp only [gB, gZ, gP, gC, hok, if_true]
    exact specWrite_yes q ea ec ds B da ca dc cc zs ps w hR hok hv hd
  | false =>
    refine (specWrite_no _ _ B da ca dc cc zs ps w hR hzl hpl hel hok).mono fun e w' hq => ?_
    obtain ⟨rfl, h2⟩ := hq
    simp only [gB, gZ, gP, gC, hok]
    exact ⟨none, 0, none, 0, rfl, DOwnX.none h2.size, h2⟩
end Go.Proofs.Ytbadedhliplkeaa
