import Derived.Test.YtbadedhliplkeaaFl1
namespace Go.Proofs.Ytbadedhliplkeaa
open Go.RowKit

theorem RowAt.form {w : World} {g : Nat} {v : Value} {zs : List Int} (h : RowAt w g v zs) : ∃ cap, v = .slice (some ⟨g, 0, none⟩) zs.length cap ∧ zs.length ≤ cap := by
  obtain ⟨cap, _, h1, _, h2, _⟩ := h.shape
  exact ⟨cap, h1, h2⟩

theorem elem_after {wr w1 : World} {x y : Value} {t : TypeId} (h : Below (wr.alloc (.cells #[x, y] t)).drew.heap.size (wr.alloc (.cells #[x, y] t)).drew w1) :
    (w1.cell? ⟨wr.heap.size, 0, none⟩ = some x ∧ w1.cell? ⟨wr.heap.size, 1, none⟩ = some y) ∧ Below wr.heap.size wr w1 := by
  have hs : (wr.alloc (.cells #[x, y] t)).drew.heap.size = wr.heap.size + 1 := by simp
  refine ⟨⟨?_, ?_⟩, (belowA wr _).drew.trans (h.mono (by omega))⟩
  · rw [h.cell (p := ⟨wr.heap.size, 0, none⟩) (by show wr.heap.size < _; omega)]; exact World.cell?_alloc_at _ _ _ _ rfl
  · rw [h.cell (p := ⟨wr.heap.size, 1, none⟩) (by show wr.heap.size < _; omega)]; exact World.cell?_alloc_at _ _ _ _ rfl

theorem elem_stored {w1 : World} {h g j k : Nat} {x y : Value} (hq : w1.cell? ⟨h, 0, none⟩ = some x ∧ w1.cell? ⟨h, 1, none⟩ = some y) (hg : g < h) (u v : Value) :
    ((w1.setCell ⟨g, j, none⟩ u).setCell ⟨g, k, none⟩ v).cell? ⟨h, 0, none⟩ = some x ∧ ((w1.setCell ⟨g, j, none⟩ u).setCell ⟨g, k, none⟩ v).cell? ⟨h, 1, none⟩ = some y := by
  constructor
  · rw [World.cell?_setCell_other _ _ _ _ (by intro hh; simp only [Addr.mk.injEq] at hh; omega), World.cell?_setCell_other _ _ _ _ (by intro hh; simp only [Addr.mk.injEq] at hh; omega)]; exact hq.1
  · rw [World.cell?_setCell_other _ _ _ _ (by intro hh; simp only [Addr.mk.injEq] at hh; omega), World.cell?_setCell_other _ _ _ _ (by intro hh; simp only [Addr.mk.injEq] at hh; omega)]; exact hq.2

theorem box_after {w w1 : World} {g : Nat} {x0 x1 x2 : Value} {t : TypeId} (hX : Box3 w g x0 x1 x2 t) (hb : Below w.drew.heap.size w.drew w1) : w1.cell? ⟨g, 0, none⟩ = some x0 ∧ w1.cell? ⟨g, 1, none⟩ = some x1 := by
  have h1 := (Box3.below (w := w.drew) hX hb).cells
  exact ⟨h1.1, h1.2.1⟩

theorem box_stored {w1 : World} {h : Nat} {x y : Value} (hq : w1.cell? ⟨h, 0, none⟩ = some x ∧ w1.cell? ⟨h, 1, none⟩ = some y) (u v z : Value) :
    (((w1.setCell ⟨h + 1, 0, none⟩ u).setCell ⟨h + 1, 1, none⟩ v).setCell ⟨h + 1, 2, none⟩ z).cell? ⟨h, 0, none⟩ = some x ∧ (((w1.setCell ⟨h + 1, 0, none⟩ u).setCell ⟨h + 1, 1, none⟩ v).setCell ⟨h + 1, 2, none⟩ z).cell? ⟨h, 1, none⟩ = some y := by
  constructor
  · rw [World.cell?_setCell_other _ _ _ _ (by simp), World.cell?_setCell_other _ _ _ _ (by simp), World.cell?_setCell_other _ _ _ _ (by simp)]; exact hq.1
  · rw [World.cell?_setCell_other _ _ _ _ (by simp), World.cell?_setCell_other _ _ _ _ (by simp), World.cell?_setCell_other _ _ _ _ (by simp)]; exact hq.2

theorem fresh_end {w w1 : World} {g g0 : Nat} {u v : Value} {zs : List Int} {ps : List (Int × List Int)} (hb : Below w.heap.size w w1) (h2 : RowAt w1 g u zs) (hO : POwn g0 g w1 v ps) (h3 : w.heap.size + 1 < g0) (h4 : g0 ≤ g) (x y z : Value) :
    RowAt (((w1.setCell ⟨w.heap.size + 1, 0, none⟩ x).setCell ⟨w.heap.size + 1, 1, none⟩ y).setCell ⟨w.heap.size + 1, 2, none⟩ z) g u zs ∧ POwn g0 g (((w1.setCell ⟨w.heap.size + 1, 0, none⟩ x).setCell ⟨w.heap.size + 1, 1, none⟩ y).setCell ⟨w.heap.size + 1, 2, none⟩ z) v ps ∧
      Below w.heap.size w (((w1.setCell ⟨w.heap.size + 1, 0, none⟩ x).setCell ⟨w.heap.size + 1, 1, none⟩ y).setCell ⟨w.heap.size + 1, 2, none⟩ z) := by
  have u1 : Upd (w.heap.size + 1) (w.heap.size + 2) w1 (w1.setCell ⟨w.heap.size + 1, 0, none⟩ x) := (Upd.refl _ _ _).setCell (p := ⟨w.heap.size + 1, 0, none⟩) (Nat.le_refl _) (Nat.lt_succ_self _) x
  have u2 := u1.setCell (p := ⟨w.heap.size + 1, 1, none⟩) (Nat.le_refl _) (Nat.lt_succ_self _) y
  have u3 := u2.setCell (p := ⟨w.heap.size + 1, 2, none⟩) (Nat.le_refl _) (Nat.lt_succ_self _) z
  exact ⟨h2.block (u3.block g h2.lt (by omega)), hO.upd u3 (by omega), hb.trans (u3.below (by omega) hb.size)⟩

theorem spine_stored {w1 : World} {b g n : Nat} {t : TypeId} (h : ∃ cur, w1.heap[g]? = some (.cells cur t (0, 0)) ∧ cur.size = n) (hne : g ≠ b) (x y z : Value) :
    ∃ cur, (((w1.setCell ⟨b, 0, none⟩ x).setCell ⟨b, 1, none⟩ y).setCell ⟨b, 2, none⟩ z).heap[g]? = some (.cells cur t (0, 0)) ∧ cur.size = n := by
  obtain ⟨cur, h1, h2⟩ := h
  exact ⟨cur, ((Below.heap_setCell _ _ _ _ hne).trans ((Below.heap_setCell _ _ _ _ hne).trans (Below.heap_setCell _ _ _ _ hne))).trans h1, h2⟩

set_option maxHeartbeats 4000000 in
theorem fresh_row (B : Int) (da ca : Option Addr) (dc cc : Nat) (zs : List Int) (ps : List (Int × List Int)) (w : World) (h : DRead w (.agg #[.int .i64 B, .slice da zs.length dc, .slice ca ps.length cc]) B zs ps) (hok : dOK B zs ps = true) :
    Calls Try.prog 45 #[.agg #[.int .i64 B, .slice da zs.length dc, .slice ca ps.length cc]] w fun e w' => ∃ u g g0, e = .returned (.agg #[.int .i64 B, u, .slice (some ⟨g0, 0, none⟩) ps.length ps.length]) ∧ w.heap.size ≤ g0 ∧ g0 < g ∧ RowAt w' g u zs ∧ POwn g0 g w' (.slice (some ⟨g0, 0, none⟩) ps.length ps.length) ps ∧ Below w.heap.size w w' ∧ ∃ cur, w'.heap[g0]? = some (.cells cur 38 (0, 0)) ∧ cur.size = ps.length * 2 := by
  obtain ⟨hB1, hB2, hzl, hpl, hel⟩ := dOK_out hok
  obtain ⟨_, _, _, _, he, k1, k2⟩ := h
  simp only [Value.agg.injEq, Array.mk.injEq, List.cons.injEq, Value.slice.injEq, true_and, and_true] at he
  obtain ⟨⟨rfl, rfl⟩, rfl, rfl⟩ := he
  have hzl' : zs.length ≤ 1048576 := by omega
  have hzp : 0 < zs.length := by omega
  have hb0 := belowA w (.cells #[.int .i64 B, .slice da zs.length dc, .slice ca ps.length cc] 25)
  have hmk := fun w => make_pend ps.length (by omega) w
  obtain ⟨cur, hcs, hmk1⟩ := hmk ((w.alloc (.cells #[.int .i64 B, .slice da zs.length dc, .slice ca ps.length cc] 25)).alloc (.cells #[.int .i64 0, .slice none 0 0, .slice none 0 0] 25))
  clear hzl hmk
  go_enter Try.func45, Try.ntmps45
  go_wp2
  obtain ⟨W2, hW2⟩ : ∃ W2, W2 = ((w.alloc (.cells #[.int .i64 B, .slice da zs.length dc, .slice ca ps.length cc] 25)).alloc (.cells #[.int .i64 0, .slice none 0 0, .slice none 0 0] 25)) := ⟨_, rfl⟩
  have hs2 : W2.heap.size = w.heap.size + 1 + 1 := by rw [hW2]; simp
  have hX2 : Box3 W2 w.heap.size (.int .i64 B) (.slice da zs.length dc) (.slice ca ps.length cc) 25 := by rw [hW2]; exact (Box3.made _ _ _ _ _ _ rfl).alloc _
  have hY2 : Box3 W2 (w.heap.size + 1) (.int .i64 0) (.slice none 0 0) (.slice none 0 0) 25 := by rw [hW2]; exact Box3.made _ _ _ _ _ _ (by simp)
  have hbel2 : Below w.heap.size w W2 := by rw [hW2]; exact hb0.trans ((belowA _ _).mono hb0.size)
  have hT : PTo W2 (W2.alloc (.cells cur 38)) (w.heap.size + 1 + 1) ps (fun _ => 0) 0 := by rw [← hs2]; exact PTo.start W2 ps cur hcs
  rw [← hW2]
  have k3 := k2.below hbel2
  obtain ⟨_, _, he, hpc⟩ := k3
  simp only [Value.slice.injEq, true_and] at he
  obtain ⟨rfl, rfl⟩ := he
  have HS2 : Hid (W2.heap.size = w.heap.size + 1 + 1) := hs2
  clear hW2 hmk1 hcs hs2 hb0
  go_loopw [4, 5, 13] (fun _ _ i wr => ∃ k : Nat, k ≤ ps.length ∧ i = .int .i64 k ∧ ∃ g, PTo W2 wr (w.heap.size + 1 + 1) ps g k) (fun _ _ i _ => ps.length - (intOf i).toNat)
  case atStart => exact ⟨0, Nat.zero_le _, rfl, _, hT⟩
  case round =>
    obtain ⟨k, hk, rfl, g, hP⟩ := hrel
    clear hT
    by_cases hlt : k < ps.length
    · obtain ⟨b, off, rfl, hcell⟩ := hpc (by omega)
      obtain ⟨ea, ec, g1, g2, g3⟩ := hcell k hlt
      have hbw := World.block_lt_of_cell? _ _ g1
      have hpk := of_decide_eq_true (hel k hlt)
      rw [← hP.below.cell (p := ⟨b, off + k * 2, none⟩) hbw] at g1
      rw [← hP.below.cell (p := ⟨b, off + k * 2 + 1, none⟩) hbw] at g2
      have g4 := g3.below hP.below
      have HST := fun w1 hb g1 (dc : Nat) h1 h2 => (show Hid _ from hP.step (w1 := w1) (g1 := g1) (dc := dc) hlt hb h1 h2)
      have hcl := fun w1 hb => (⟨hP.cell (w1 := w1) hb (k * 2) (by omega), hP.cell (w1 := w1) hb (k * 2 + 1) (by omega)⟩ : _ ∧ _)
      have hg0 := hP.lt
      clear hcell g3
      generalize ps.getD k (0, []) = p at g1 g2 g4 hpk HST
      obtain ⟨r, ds⟩ := p
      simp only at g1 g2 g4 hpk
      obtain ⟨-, -, hdl⟩ := hpk
      have hdl' := hdl
      rw [hdl] at g2
      have hki : (k : Int) < (ps.length : Int) := by omega
      have hki0 : (0 : Int) ≤ (k : Int) := by omega
      have hbE := belowA wr (.cells #[.int .i64 r, .slice ea 128 ec] 38)
      have g5 := g4.below hbE
      rw [hdl] at g5
      have hsh := g5.shape
      obtain ⟨_, _, he, hx⟩ := hsh
      simp only [Value.slice.injEq] at he
      obtain ⟨rfl, -, rfl⟩ := he
      obtain ⟨eb, eo, rfl, -⟩ := hx (by omega)
      have m0 : (wr.alloc (.cells #[.int .i64 r, .slice (some ⟨eb, eo, none⟩) 128 ec] 38)).cell? ⟨wr.heap.size, 0, none⟩ = some (.int .i64 r) := World.cell?_alloc_at _ _ _ _ rfl
      have m1 : (wr.alloc (.cells #[.int .i64 r, .slice (some ⟨eb, eo, none⟩) 128 ec] 38)).cell? ⟨wr.heap.size, 1, none⟩ = some (.slice (some ⟨eb, eo, none⟩) 128 ec) := World.cell?_alloc_at _ _ _ _ rfl
      clear hx g4 hdl hpc
      go_wp2
      go_region_held3 (fun w' => w'.cell? ⟨wr.heap.size, 0, none⟩ = some (.int .i64 r) ∧ w'.cell? ⟨wr.heap.size, 1, none⟩ = some (.slice (some ⟨eb, eo, none⟩) 128 ec)) (first | go_keep | assumption | exact elem_stored (by assumption) hg0 _ _)
        (first | (go_at_call 60; refine (clone_any eb eo 128 ec ds _ hdl' (by omega) (by omega) ?_).mono ?_; exact g5.below (Below.refl _ _).drew; rintro e w1 ⟨v, gn, rfl, h1, h2, h3⟩; obtain ⟨vc, rfl, hvc⟩ := h2.form; obtain ⟨hq, hbw1⟩ := elem_after h3; obtain ⟨⟨⟨x0, c0⟩, f0⟩, ⟨⟨x1, c1⟩, f1⟩⟩ := hcl w1 hbw1))
      have hgn : wr.heap.size ≤ gn := by simp at h1; omega
      have hst := (HST w1 hbw1 gn vc hgn h2.lt).out h2.own
      simp only [hdl'] at hst
      clear hq hbw1 c0 c1 f0 f1 h1 h2 h3 m0 m1 g1 g2 g5 hbE HST hcl
      go_wp2
      go_roundw
      case rel => exact ⟨k + 1, by omega, by go_num, _, hst⟩
      case measure => simp [intOf]; omega
    · have hke : k = ps.length := by omega
      subst hke
      have hO := hP.own ps.length
      have hsp := hP.spine
      have hX3 := hX2.below hP.below
      have hY3 := hY2.below hP.below
      have hbel3 := hbel2.trans (hP.below.mono hbel2.size)
      have k4 := k1.below hbel3
      have hg0 := hP.lt
      obtain ⟨x0, x1, x2⟩ := hX3.cells
      have hsh := k4.shape
      obtain ⟨_, _, he, hx⟩ := hsh
      simp only [Value.slice.injEq, true_and] at he
      obtain ⟨rfl, rfl⟩ := he
      obtain ⟨db, doff, rfl, -⟩ := hx hzp
      clear hx hpc hP
      go_wp2
      go_region_held3 (fun w' => w'.cell? ⟨w.heap.size, 0, none⟩ = some (.int .i64 B) ∧ w'.cell? ⟨w.heap.size, 1, none⟩ = some (.slice (some ⟨db, doff, none⟩) zs.length dc)) (first | go_keep | assumption | exact box_stored (by assumption) _ _ _)
        (first | (go_at_call 60; refine (clone_any db doff zs.length dc zs _ rfl hzp hzl' ?_).mono ?_; exact k4.below (Below.refl _ _).drew; rintro e w1 ⟨v, gn, rfl, h1, h2, h3⟩; obtain ⟨vc, rfl, hvc⟩ := h2.form; have hq := box_after hX3 h3; have hYw := Box3.below (w := wr.drew) hY3 h3; obtain ⟨c0, c1, c2⟩ := hYw.cells; have hfr := hYw.free))
      have hgn : wr.heap.size ≤ gn := by simpa using h1
      have hO1 : POwn (w.heap.size + 1 + 1) gn w1 (.slice (some ⟨w.heap.size + 1 + 1, 0, none⟩) ps.length ps.length) ps := (POwn.below (w := wr.drew) (hO.below (Below.refl _ _).drew) h3).wider (Nat.le_refl _) hgn
      have hb1 : Below w.heap.size w w1 := hbel3.drew.trans (h3.mono hbel3.size)
      have hend := fresh_end hb1 h2 hO1 (by omega) (by omega)
      have hspine : ∃ cur, w1.heap[w.heap.size + 1 + 1]? = some (.cells cur 38 (0, 0)) ∧ cur.size = ps.length * 2 := by
        obtain ⟨cur, hq1, hq2⟩ := hsp
        exact ⟨cur, (h3.block _ (by simpa using hg0)).trans hq1, hq2⟩
      clear hq hfr hYw h1 h2 h3 hO hO1 hX2 hX3 hY2 hY3 x0 x1 x2 k4 k1 k2
      go_wp2
      exact bodyPost_ret (v := .agg #[.int .i64 B, .slice (some ⟨gn, 0, none⟩) zs.length vc, .slice (some ⟨w.heap.size + 1 + 1, 0, none⟩) ps.length ps.length]) (by simp [results, Try.results45, go_sem, c0, c1, c2]) rfl ⟨_, gn, _, rfl, by omega, by omega, (hend _ _ _).1, (hend _ _ _).2.1, (hend _ _ _).2.2, spine_stored hspine (by omega) _ _ _⟩

theorem fresh_any (B : Int) (da ca : Option Addr) (dc cc : Nat) (zs : List Int) (ps : List (Int × List Int)) (w : World) (h : DRead w (.agg #[.int .i64 B, .slice da zs.length dc, .slice ca ps.length cc]) B zs ps) (hok : dOK B zs ps = true) :
    Calls Try.prog 45 #[.agg #[.int .i64 B, .slice da zs.length dc, .slice ca ps.length cc]] w fun e w' => ∃ u g g0, e = .returned (.agg #[.int .i64 B, u, .slice (some ⟨g0, 0, none⟩) ps.length ps.length]) ∧ w.heap.size ≤ g0 ∧ g0 < g ∧ RowAt w' g u zs ∧ POwn g0 g w' (.slice (some ⟨g0, 0, none⟩) ps.length ps.length) ps ∧ Below w.heap.size w w' :=
  (fresh_row B da ca dc cc zs ps w h hok).mono fun e w' hq => by
    obtain ⟨u, g, g0, h1, h2, h3, h4, h5, h6, _⟩ := hq
    exact ⟨u, g, g0, h1, h2, h3, h4, h5, h6⟩
end Go.Proofs.Ytbadedhliplkeaa
