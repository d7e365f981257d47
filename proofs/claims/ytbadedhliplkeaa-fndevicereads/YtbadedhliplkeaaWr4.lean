import Derived.Test.YtbadedhliplkeaaWr3
namespace Go.Proofs.Ytbadedhliplkeaa
open Go.RowKit
set_option linter.unusedVariables false

theorem RowAt.cells3 {w3 : World} {g r : Nat} {u : Value} {zs : List Int} (h : RowAt w3 g u zs) (hne : g ≠ r) (x y z : Value) : RowAt (((w3.setCell ⟨r, 0, none⟩ x).setCell ⟨r, 1, none⟩ y).setCell ⟨r, 2, none⟩ z) g u zs :=
  h.block ((Below.heap_setCell _ _ _ _ hne).trans ((Below.heap_setCell _ _ _ _ hne).trans (Below.heap_setCell _ _ _ _ hne)))

/-- the answer's block written: what the answer holds -/
theorem res_endX {S : Nat → Prop} {w w3 : World} {g r : Nat} {B : Int} {ua ca : Option Addr} {uc cc : Nat} {zs : List Int} {ps : List (Int × List Int)} (hb : Below w.heap.size w w3) (h2 : RowAt w3 g (.slice ua zs.length uc) zs) (hR : PRow S w3 (.slice ca ps.length cc) ps) (hS : ∀ k, S k → w.heap.size ≤ k ∧ k ≠ g ∧ k ≠ r) (h3 : w.heap.size ≤ r) (h4 : r ≠ g) (h5 : w.heap.size ≤ g) (x y z : Value) :
    DOwnX w.heap.size (((w3.setCell ⟨r, 0, none⟩ x).setCell ⟨r, 1, none⟩ y).setCell ⟨r, 2, none⟩ z).heap.size (((w3.setCell ⟨r, 0, none⟩ x).setCell ⟨r, 1, none⟩ y).setCell ⟨r, 2, none⟩ z) (.agg #[.int .i64 B, .slice ua zs.length uc, .slice ca ps.length cc]) B zs ps ∧
      Below w.heap.size w (((w3.setCell ⟨r, 0, none⟩ x).setCell ⟨r, 1, none⟩ y).setCell ⟨r, 2, none⟩ z) := by
  have h6 := h2.cells3 (fun e => h4 e.symm) x y z
  have hlt := h6.lt
  have hsz : (((w3.setCell ⟨r, 0, none⟩ x).setCell ⟨r, 1, none⟩ y).setCell ⟨r, 2, none⟩ z).heap.size = w3.heap.size := by simp
  refine ⟨⟨ua, uc, ca, cc, g, g + 1, rfl, h5, by omega, h6.own, ?_⟩, ((hb.setCell (p := ⟨r, 0, none⟩) h3 x).setCell (p := ⟨r, 1, none⟩) h3 y).setCell (p := ⟨r, 2, none⟩) h3 z⟩
  refine (hR.kept (by omega) (fun b hb _ => ?_)).own.wider (fun k hk hl => ?_)
  · have hne : b ≠ r := (hS b hb).2.2
    exact (Below.heap_setCell _ _ _ _ hne).trans ((Below.heap_setCell _ _ _ _ hne).trans (Below.heap_setCell _ _ _ _ hne))
  · have := hS k hk
    omega

set_option maxRecDepth 100000 in
set_option maxHeartbeats 4000000 in
theorem implWrite_yes (q : Int) (ea : Option Addr) (ec : Nat) (ds : List Int) (B : Int) (da ca : Option Addr) (dc cc : Nat) (zs : List Int) (ps : List (Int × List Int)) (w : World) (h : DRead w (.agg #[.int .i64 B, .slice da zs.length dc, .slice ca ps.length cc]) B zs ps) (hok : dOK B zs ps = true) (hv : Bts w (.slice ea ds.length ec) ds) (hd : ds.length ≤ 1048576) :
    Calls Try.prog 19 #[.agg #[.int .i64 B, .slice da zs.length dc, .slice ca ps.length cc], .int .i64 q, .slice ea ds.length ec] w fun e w' => ∃ xa xc ya yc, e = .returned (.tuple #[.agg #[.int .i64 B, .slice xa zs.length xc, .slice ya (wP B ps q ds).length yc], .int .i64 (wC B ps.length q ds.length)]) ∧ DOwnX w.heap.size w'.heap.size w' (.agg #[.int .i64 B, .slice xa zs.length xc, .slice ya (wP B ps q ds).length yc]) B zs (wP B ps q ds) ∧ Below w.heap.size w w' := by
  obtain ⟨hB1, hB2, hzl, hpl, hel⟩ := dOK_out hok
  have hzl' : zs.length ≤ 1048576 := by omega
  have hel' : ∀ i, (ps.getD i (0, [])).2.length ≤ 1048576 := fun i => by
    by_cases hi : i < ps.length
    · have := of_decide_eq_true (hel i hi); omega
    · simp [hi]
  have hbel := fun o1 o2 => ((Below.refl w.heap.size w).alloc (Nat.le_refl _) o1).alloc (by simp) o2
  have hX := (Box3.made w (.int .i64 B) (.slice da zs.length dc) (.slice ca ps.length cc) 25 _ rfl).alloc (.cells #[.int .i64 0, .slice none 0 0, .slice none 0 0] 25)
  have hY := Box3.made (w.alloc (.cells #[.int .i64 B, .slice da zs.length dc, .slice ca ps.length cc] 25)) (.int .i64 0) (.slice none 0 0) (.slice none 0 0) 25 (w.heap.size + 1) (by simp)
  have hb0 := hbel (.cells #[.int .i64 B, .slice da zs.length dc, .slice ca ps.length cc] 25) (.cells #[.int .i64 0, .slice none 0 0, .slice none 0 0] 25)
  clear hzl hbel
  go_enter Try.func19, Try.ntmps19
  go_wp2_with fail
  refine (valid_any B _ zs ps _ (h.below hb0) hzl' (by omega) hel').mono ?_
  rintro e w1 ⟨rfl, hb1⟩
  have hX1 := hX.below hb1
  have hY1 := hY.below hb1
  have hs1 : w.heap.size + 1 + 1 ≤ w1.heap.size := by have := hb1.size; simpa using this
  have hbel1 := hb0.trans (hb1.mono hb0.size)
  obtain ⟨c0, c1, c2⟩ := hX1.cells
  clear hX hY hb1 hb0
  go_wp2_with fail
  refine (fresh_row B da ca dc cc zs ps _ (h.below hbel1) hok).mono ?_
  rintro e w2 ⟨u, g, g0, rfl, hg0, hgg, hu, hO, hb2, cur, hsp, hcs⟩
  have hY2 := hY1.below hb2
  have hbel2 := hbel1.trans (hb2.mono hbel1.size)
  have hs2 := hb2.size
  obtain ⟨uc, rfl, huc⟩ := hu.form
  have hgl := hu.lt
  have hR2 : PRow (fun k => g0 ≤ k ∧ k ≠ g ∧ k ≠ w2.heap.size) w2 _ ps := PRow.of_own hO hsp hcs (by omega) (fun k k1 k2 => ⟨k1, by omega, by omega⟩) hgg
  clear c0 c1 c2 hX1 hY1 hb2 hbel1 hO hsp hcs
  have hb3 := belowA w2 (.cells #[.int .i64 B, .slice (some ⟨g, 0, none⟩) zs.length uc, .slice (some ⟨g0, 0, none⟩) ps.length ps.length] 25)
  have hP3 := Box3.made w2 (.int .i64 B) (.slice (some ⟨g, 0, none⟩) zs.length uc) (.slice (some ⟨g0, 0, none⟩) ps.length ps.length) 25 _ rfl
  have hR3 := hR2.below hb3
  have hu3 := hu.below hb3
  have hY3 := hY2.below hb3
  have hbel3 := hbel2.trans (hb3.mono hbel2.size)
  have hv3 := hv.below hbel3
  clear hu hR2 hY2 hb3 hbel2
  go_wp2_with fail
  refine (write_any (fun k => g0 ≤ k ∧ k ≠ g ∧ k ≠ w2.heap.size) w2.heap.size B q _ _ ea ec ds ps _ hP3 hR3 (by omega) (fun k hk => by simp at hk; omega) (by omega) (by omega) hd (by omega) hv3).mono ?_
  rintro e w4 ⟨c', rfl, hP4, hR4, hF4⟩
  obtain ⟨wa, wc, rfl⟩ := hR4.form
  have hY4 : Box3 w4 (w.heap.size + 1) (.int .i64 0) (.slice none 0 0) (.slice none 0 0) 25 := (hF4.block _ hY3.lt (by omega)).trans hY3
  have hu4 := hu3.block (hF4.block g hu3.lt (by omega))
  have hbel4 := hbel3.trans (hF4.below hbel3.size (fun k hk => by omega))
  obtain ⟨p0, p1, p2⟩ := hP4.cells
  obtain ⟨y0, y1, y2⟩ := hY4.cells
  have hfr := hY4.free
  have hend := res_endX (B := B) (r := w.heap.size + 1) hbel4 hu4 hR4 (fun k hk => by omega) (by omega) (by omega) (by omega)
  clear hP3 hu3 hR3 hY3 hF4 hP4 hu4 hR4 hY4 hv3
  go_wp2
  refine bodyPost_ret (v := .tuple #[.agg #[.int .i64 B, .slice (some ⟨g, 0, none⟩) zs.length uc, .slice wa (wP B ps q ds).length wc], .int .i64 (wC B ps.length q ds.length)]) (by simp [results, Try.results19, go_sem, y0, y1, y2]) rfl ?_
  exact ⟨_, _, _, _, rfl, (hend _ _ _).1, (hend _ _ _).2⟩

set_option maxHeartbeats 1000000 in
theorem implWrite_no (kq kv : Value) (B : Int) (da ca : Option Addr) (dc cc : Nat) (zs : List Int) (ps : List (Int × List Int)) (w : World) (h : DRead w (.agg #[.int .i64 B, .slice da zs.length dc, .slice ca ps.length cc]) B zs ps) (hzl' : zs.length ≤ 1048576) (hpl : ps.length ≤ 1048576) (hel' : ∀ i, (ps.getD i (0, [])).2.length ≤ 1048576) (hok : dOK B zs ps = false) :
    Calls Try.prog 19 #[.agg #[.int .i64 B, .slice da zs.length dc, .slice ca ps.length cc], kq, kv] w fun e w' => e = .returned (.tuple #[.agg #[.int .i64 0, .slice none 0 0, .slice none 0 0], .int .i64 1]) ∧ Below w.heap.size w w' := by
  have hY := Box3.made (w.alloc (.cells #[.int .i64 B, .slice da zs.length dc, .slice ca ps.length cc] 25)) (.int .i64 0) (.slice none 0 0) (.slice none 0 0) 25 (w.heap.size + 1) (by simp)
  have hb0 : Below w.heap.size w ((w.alloc (.cells #[.int .i64 B, .slice da zs.length dc, .slice ca ps.length cc] 25)).alloc (.cells #[.int .i64 0, .slice none 0 0, .slice none 0 0] 25)) := ((Below.refl w.heap.size w).alloc (Nat.le_refl _) _).alloc (by simp) _
  go_enter Try.func19, Try.ntmps19
  go_wp2_with fail
  refine (valid_any B _ zs ps _ (h.below hb0) hzl' hpl hel').mono ?_
  rintro e w1 ⟨rfl, hb1⟩
  have hY1 := hY.below hb1
  have hbel1 := hb0.trans (hb1.mono hb0.size)
  obtain ⟨y0, y1, y2⟩ := hY1.cells
  have hfr := hY1.free
  clear hY hb1 hb0 hY1
  have hend := fun x y z => ((hbel1.setCell (p := ⟨w.heap.size + 1, 0, none⟩) (by simp) x).setCell (p := ⟨w.heap.size + 1, 1, none⟩) (by simp) y).setCell (p := ⟨w.heap.size + 1, 2, none⟩) (by simp) z
  go_wp2
  exact bodyPost_ret (v := .tuple #[.agg #[.int .i64 0, .slice none 0 0, .slice none 0 0], .int .i64 1]) (by simp [results, Try.results19, go_sem, y0, y1, y2]) rfl ⟨rfl, hend _ _ _⟩

/-- what a device that is none is turned into: none -/
def gB (B : Int) (zs : List Int) (ps : List (Int × List Int)) : Int := if dOK B zs ps then B else 0
def gZ (B : Int) (zs : List Int) (ps : List (Int × List Int)) : List Int := if dOK B zs ps then zs else []
def gP (q : Int) (ds : List Int) (B : Int) (zs : List Int) (ps : List (Int × List Int)) : List (Int × List Int) := if dOK B zs ps then wP B ps q ds else []
def gC (q : Int) (ds : List Int) (B : Int) (zs : List Int) (ps : List (Int × List Int)) : Int := if dOK B zs ps then wC B ps.length q ds.length else 1

theorem DOwnX.none {lo hi : Nat} {w : World} (h : lo ≤ hi) : DOwnX lo hi w (.agg #[.int .i64 0, .slice none 0 0, .slice none 0 0]) 0 [] [] :=
  (DOwn.of_disk (zs := []) h (Own8.empty _ _ _ _ _)).toX

theorem implWrite_any (q : Int) (ea : Option Addr) (ec : Nat) (ds : List Int) (B : Int) (da ca : Option Addr) (dc cc : Nat) (zs : List Int) (ps : List (Int × List Int)) (w : World) (hR : DRead w (.agg #[.int .i64 B, .slice da zs.length dc, .slice ca ps.length cc]) B zs ps) (hcap : zs.length ≤ dc) (hzl : zs.length ≤ 1048576) (hpl : ps.length ≤ 1048576) (hel : ∀ i, (ps.getD i (0, [])).2.length ≤ 1048576) (hv : Bts w (.slice ea ds.length ec) ds) (hd : ds.length ≤ 1048576) :
    Calls Try.prog 19 #[.agg #[.int .i64 B, .slice da zs.length dc, .slice ca ps.length cc], .int .i64 q, .slice ea ds.length ec] w fun e w' => ∃ xa xc ya yc, e = .returned (.tuple #[.agg #[.int .i64 (gB B zs ps), .slice xa (gZ B zs ps).length xc, .slice ya (gP q ds B zs ps).length yc], .int .i64 (gC q ds B zs ps)]) ∧ DOwnX w.heap.size w'.heap.size w' (.agg #[.int .i64 (gB B zs ps), .slice xa (gZ B zs ps).length xc, .slice ya (gP q ds B zs ps).length yc]) (gB B zs ps) (gZ B zs ps) (gP q ds B zs ps) ∧ Below w.heap.size w w' := by
  cases hok : dOK B zs ps with
  | true =>
    simp only [gB, gZ, gP, gC, hok, if_true]
    exact implWrite_yes q ea ec ds B da ca dc cc zs ps w hR hok hv hd
  | false =>
    refine (implWrite_no _ _ B da ca dc cc zs ps w hR hzl hpl hel hok).mono fun e w' hq => ?_
    obtain ⟨rfl, h2⟩ := hq
    simp only [gB, gZ, gP, gC, hok]
    exact ⟨none, 0, none, 0, rfl, DOwnX.none h2.size, h2⟩
end Go.Proofs.Ytbadedhliplkeaa
