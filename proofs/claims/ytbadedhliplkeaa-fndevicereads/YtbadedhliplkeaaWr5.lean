import Derived.Test.YtbadedhliplkeaaRg
namespace Go.Proofs.Ytbadedhliplkeaa
open Go.RowKit
set_option linter.unusedVariables false

theorem box_after2 {w w1 : World} {g : Nat} {x0 x1 x2 : Value} {t : TypeId} {o : Obj} (hX : Box3 w g x0 x1 x2 t) (hb : Below (w.drew.alloc o).heap.size (w.drew.alloc o) w1) : w1.cell? ⟨g, 0, none⟩ = some x0 ∧ w1.cell? ⟨g, 1, none⟩ = some x1 := by
  have h1 := (Box3.below (w := w.drew.alloc o) (Box3.alloc (w := w.drew) hX o) hb).cells
  exact ⟨h1.1, h1.2.1⟩

theorem box_stored2 {w1 : World} {h g : Nat} {x y : Value} (hq : w1.cell? ⟨h, 0, none⟩ = some x ∧ w1.cell? ⟨h, 1, none⟩ = some y) (hne : h < g) (u v z : Value) :
    (((w1.setCell ⟨g, 0, none⟩ u).setCell ⟨g, 1, none⟩ v).setCell ⟨g, 2, none⟩ z).cell? ⟨h, 0, none⟩ = some x ∧ (((w1.setCell ⟨g, 0, none⟩ u).setCell ⟨g, 1, none⟩ v).setCell ⟨g, 2, none⟩ z).cell? ⟨h, 1, none⟩ = some y := by
  have hn : ∀ j i, (⟨g, j, none⟩ : Addr) ≠ ⟨h, i, none⟩ := fun i j e => by simp only [Addr.mk.injEq] at e; omega
  constructor
  · rw [World.cell?_setCell_other _ _ _ _ (hn _ _), World.cell?_setCell_other _ _ _ _ (hn _ _), World.cell?_setCell_other _ _ _ _ (hn _ _)]; exact hq.1
  · rw [World.cell?_setCell_other _ _ _ _ (hn _ _), World.cell?_setCell_other _ _ _ _ (hn _ _), World.cell?_setCell_other _ _ _ _ (hn _ _)]; exact hq.2

/-- l1CopyDevice at work: d's box, the answer's, out's at block o; the disk's bytes in block gd; the first k writes are copied -/
structure Cp (w W : World) (o gd : Nat) (B : Int) (da ca : Option Addr) (dc cc : Nat) (ua : Option Addr) (uc : Nat) (zs : List Int) (ps : List (Int × List Int)) (c : Value) : Prop where
  x : Box3 W w.heap.size (.int .i64 B) (.slice da zs.length dc) (.slice ca ps.length cc) 25
  y : Box3 W (w.heap.size + 1) (.int .i64 0) (.slice none 0 0) (.slice none 0 0) 25
  z : Box3 W o (.int .i64 B) (.slice ua zs.length uc) c 25
  disk : Own8 gd (gd + 1) W (.slice ua zs.length uc) zs
  ho : w.heap.size + 2 ≤ o
  hg : w.heap.size + 2 ≤ gd
  hl : gd < W.heap.size
  hne : o ≠ gd
  below : Below w.heap.size w W

theorem Cp.lt {w W : World} {o gd : Nat} {B : Int} {da ca : Option Addr} {dc cc : Nat} {ua : Option Addr} {uc : Nat} {zs : List Int} {ps : List (Int × List Int)} {c : Value} (h : Cp w W o gd B da ca dc cc ua uc zs ps c) : o < W.heap.size := h.z.lt

theorem Cp.step {w W W' : World} {o gd : Nat} {B : Int} {da ca : Option Addr} {dc cc : Nat} {ua : Option Addr} {uc : Nat} {zs : List Int} {ps : List (Int × List Int)} {c : Value} (h : Cp w W o gd B da ca dc cc ua uc zs ps c) (hF : Frm (fun k => w.heap.size + 2 ≤ k ∧ k ≠ o ∧ k ≠ gd) W W') : Cp w W' o gd B da ca dc cc ua uc zs ps c := by
  have hb : ∀ k, k < W.heap.size → ¬ (w.heap.size + 2 ≤ k ∧ k ≠ o ∧ k ≠ gd) → W'.heap[k]? = W.heap[k]? := hF.block
  exact ⟨(hb _ h.x.lt (by omega)).trans h.x, (hb _ h.y.lt (by omega)).trans h.y, (hb _ h.z.lt (by omega)).trans h.z, h.disk.kept hF.size (fun k k1 k2 k3 => hb k k3 (by omega)), h.ho, h.hg, by have := h.hl; have := hF.size; omega, h.hne, h.below.trans (hF.below h.below.size (fun k hk => by omega))⟩

/-- out.Cache is stored -/
theorem Cp.store {w W : World} {o gd : Nat} {B : Int} {da ca : Option Addr} {dc cc : Nat} {ua : Option Addr} {uc : Nat} {zs : List Int} {ps : List (Int × List Int)} {c : Value} (h : Cp w W o gd B da ca dc cc ua uc zs ps c) (c' : Value) : Cp w (W.setCell ⟨o, 2, none⟩ c') o gd B da ca dc cc ua uc zs ps c' := by
  have h1 := h.ho
  have h2 := h.hg
  have h3 := h.hne
  have hb : ∀ k, k ≠ o → (W.setCell ⟨o, 2, none⟩ c').heap[k]? = W.heap[k]? := fun k hk => Below.heap_setCell _ _ _ _ hk
  refine ⟨(hb _ (by omega)).trans h.x, (hb _ (by omega)).trans h.y, ?_, h.disk.kept (by simp) (fun k k1 k2 k3 => hb k (by omega)), h1, h2, by simpa using h.hl, h3, h.below.setCell (p := ⟨o, 2, none⟩) (by show w.heap.size ≤ o; omega) _⟩
  have := heap_setCell_same W o 2 _ 25 c' h.z
  simpa [Box3] using this
theorem Cp.start {w W1 : World} {o gd : Nat} {B : Int} {da ca : Option Addr} {dc cc : Nat} {ua : Option Addr} {uc : Nat} {zs : List Int} {ps : List (Int × List Int)} (hX : Box3 W1 w.heap.size (.int .i64 B) (.slice da zs.length dc) (.slice ca ps.length cc) 25) (hY : Box3 W1 (w.heap.size + 1) (.int .i64 0) (.slice none 0 0) (.slice none 0 0) 25) (hZ : Box3 W1 o (.int .i64 0) (.slice none 0 0) (.slice none 0 0) 25) (hD : Own8 gd (gd + 1) W1 (.slice ua zs.length uc) zs) (ho : w.heap.size + 2 ≤ o) (hg : w.heap.size + 2 ≤ gd) (hl : gd < W1.heap.size) (hne : o ≠ gd) (hb : Below w.heap.size w W1) :
    Cp w (((W1.setCell ⟨o, 0, none⟩ (.int .i64 B)).setCell ⟨o, 1, none⟩ (.slice ua zs.length uc)).setCell ⟨o, 2, none⟩ (.slice none 0 0)) o gd B da ca dc cc ua uc zs ps (.slice none 0 0) := by
  have hk : ∀ k, k ≠ o → (((W1.setCell ⟨o, 0, none⟩ (.int .i64 B)).setCell ⟨o, 1, none⟩ (.slice ua zs.length uc)).setCell ⟨o, 2, none⟩ (.slice none 0 0)).heap[k]? = W1.heap[k]? := fun k hk => (Below.heap_setCell _ _ _ _ hk).trans ((Below.heap_setCell _ _ _ _ hk).trans (Below.heap_setCell _ _ _ _ hk))
  have hp : w.heap.size ≤ o := by omega
  refine ⟨(hk _ (by omega)).trans hX, (hk _ (by omega)).trans hY, ?_, hD.kept (by simp) (fun k k1 k2 k3 => hk k (by omega)), ho, hg, by simpa using hl, hne, ((hb.setCell (p := ⟨o, 0, none⟩) hp _).setCell (p := ⟨o, 1, none⟩) hp _).setCell (p := ⟨o, 2, none⟩) hp _⟩
  have e0 := heap_setCell_same W1 o 0 _ 25 (.int .i64 B) hZ
  have e1 := heap_setCell_same _ o 1 _ 25 (.slice ua zs.length uc) e0
  have e2 := heap_setCell_same _ o 2 _ 25 (.slice none 0 0) e1
  simpa [Box3] using e2

theorem Cp.start1 {w W1 : World} {gd : Nat} {B : Int} {da ca : Option Addr} {dc cc : Nat} {ua : Option Addr} {uc : Nat} {zs : List Int} {ps : List (Int × List Int)} (hX : Box3 W1 w.heap.size (.int .i64 B) (.slice da zs.length dc) (.slice ca ps.length cc) 25) (hY : Box3 W1 (w.heap.size + 1) (.int .i64 0) (.slice none 0 0) (.slice none 0 0) 25) (hD : Own8 gd (gd + 1) W1 (.slice ua zs.length uc) zs) (ho : w.heap.size + 2 ≤ W1.heap.size) (hg : w.heap.size + 2 ≤ gd) (hl : gd < W1.heap.size) (hb : Below w.heap.size w W1) :
    Cp w (W1.alloc (.cells #[.int .i64 B, .slice ua zs.length uc, .slice none 0 0] 25)) W1.heap.size gd B da ca dc cc ua uc zs ps (.slice none 0 0) :=
  ⟨hX.alloc _, hY.alloc _, Box3.made _ _ _ _ _ _ rfl, hD.below (belowA _ _), ho, hg, by simp; omega, by omega, hb.trans ((belowA _ _).mono (by omega))⟩

theorem PRow.wider {S S' : Nat → Prop} {w : World} {v : Value} {ps : List (Int × List Int)} (h : PRow S w v ps) (e : ∀ k, S k → k < w.heap.size → S' k) : PRow S' w v ps := by
  obtain ⟨xs, g, h1, h2, h3, h4⟩ := h
  refine ⟨xs, g, h1, fun b hb => e b (h2 b hb) (h1.lt b hb).2, fun i hi => ?_, h4⟩
  obtain ⟨g1, g2, g3⟩ := h3 i hi
  exact ⟨e _ g1 g2, g2, g3⟩

theorem Cp.fin {w W : World} {o gd : Nat} {B : Int} {da ca : Option Addr} {dc cc : Nat} {ua : Option Addr} {uc : Nat} {zs : List Int} {ps : List (Int × List Int)} {c : Value} (h : Cp w W o gd B da ca dc cc ua uc zs ps c) (hR : PRow (fun q => w.heap.size + 2 ≤ q ∧ q ≠ o ∧ q ≠ gd) W c ps) (x y z : Value) :
    w.heap.size ≤ gd ∧ gd < (((W.setCell ⟨w.heap.size + 1, 0, none⟩ x).setCell ⟨w.heap.size + 1, 1, none⟩ y).setCell ⟨w.heap.size + 1, 2, none⟩ z).heap.size ∧ Own8 gd (gd + 1) (((W.setCell ⟨w.heap.size + 1, 0, none⟩ x).setCell ⟨w.heap.size + 1, 1, none⟩ y).setCell ⟨w.heap.size + 1, 2, none⟩ z) (.slice ua zs.length uc) zs ∧ PRow (fun k => w.heap.size ≤ k ∧ k ≠ gd) (((W.setCell ⟨w.heap.size + 1, 0, none⟩ x).setCell ⟨w.heap.size + 1, 1, none⟩ y).setCell ⟨w.heap.size + 1, 2, none⟩ z) c ps ∧ Below w.heap.size w (((W.setCell ⟨w.heap.size + 1, 0, none⟩ x).setCell ⟨w.heap.size + 1, 1, none⟩ y).setCell ⟨w.heap.size + 1, 2, none⟩ z) := by
  have h1 := h.hg
  have hk : ∀ k, k ≠ w.heap.size + 1 → (((W.setCell ⟨w.heap.size + 1, 0, none⟩ x).setCell ⟨w.heap.size + 1, 1, none⟩ y).setCell ⟨w.heap.size + 1, 2, none⟩ z).heap[k]? = W.heap[k]? := fun k hk => (Below.heap_setCell _ _ _ _ hk).trans ((Below.heap_setCell _ _ _ _ hk).trans (Below.heap_setCell _ _ _ _ hk))
  have hp : w.heap.size ≤ w.heap.size + 1 := by omega
  exact ⟨by omega, by simpa using h.hl, h.disk.kept (by simp) (fun k k1 k2 _ => hk k (by omega)), (hR.kept (by simp) (fun b hb _ => hk b (by omega))).wider (fun k hk _ => by omega), ((h.below.setCell (p := ⟨w.heap.size + 1, 0, none⟩) hp x).setCell (p := ⟨w.heap.size + 1, 1, none⟩) hp y).setCell (p := ⟨w.heap.size + 1, 2, none⟩) hp z⟩

theorem take_snoc (ps : List (Int × List Int)) (k : Nat) (h : k < ps.length) : ps.take (k + 1) = ps.take k ++ [ps.getD k (0, [])] := by
  rw [List.take_succ_eq_append_getElem h]; simp [h]

/-- the loads of the region, anew -/
theorem cells4 {w2 w3 : World} {a b c d : Addr} {x y z u : Value} (h : w2.cell? a = some x ∧ w2.cell? b = some y ∧ w2.cell? c = some z ∧ w2.cell? d = some u) (hk : ∀ p : Addr, p = a ∨ p = b ∨ p = c ∨ p = d → w3.heap[p.block]? = w2.heap[p.block]?) : w3.cell? a = some x ∧ w3.cell? b = some y ∧ w3.cell? c = some z ∧ w3.cell? d = some u := by
  refine ⟨?_, ?_, ?_, ?_⟩
  · rw [World.cell?_of_block (hk a (by simp))]; exact h.1
  · rw [World.cell?_of_block (hk b (by simp))]; exact h.2.1
  · rw [World.cell?_of_block (hk c (by simp))]; exact h.2.2.1
  · rw [World.cell?_of_block (hk d (by simp))]; exact h.2.2.2

set_option maxRecDepth 100000 in
set_option maxHeartbeats 8000000 in
theorem copyDevice_any (B : Int) (da ca : Option Addr) (dc cc : Nat) (zs : List Int) (ps : List (Int × List Int)) (w : World) (h : DRead w (.agg #[.int .i64 B, .slice da zs.length dc, .slice ca ps.length cc]) B zs ps) (hzl : zs.length ≤ 1048576) (hpl : ps.length ≤ 2048) (hel : ∀ i, (ps.getD i (0, [])).2.length ≤ 1048576) :
    Calls Try.prog 42 #[.agg #[.int .i64 B, .slice da zs.length dc, .slice ca ps.length cc]] w fun e w' => ∃ ua uc va vc gd, e = .returned (.agg #[.int .i64 B, .slice ua zs.length uc, .slice va ps.length vc]) ∧ w.heap.size ≤ gd ∧ gd < w'.heap.size ∧ Own8 gd (gd + 1) w' (.slice ua zs.length uc) zs ∧ PRow (fun k => w.heap.size ≤ k ∧ k ≠ gd) w' (.slice va ps.length vc) ps ∧ Below w.heap.size w w' := by
  obtain ⟨_, _, _, _, he, k1, k2⟩ := h
  simp only [Value.agg.injEq, Array.mk.injEq, List.cons.injEq, Value.slice.injEq, true_and, and_true] at he
  obtain ⟨⟨rfl, rfl⟩, rfl, rfl⟩ := he
  have hX := (Box3.made w (.int .i64 B) (.slice da zs.length dc) (.slice ca ps.length cc) 25 _ rfl).alloc (.cells #[.int .i64 0, .slice none 0 0, .slice none 0 0] 25)
  have hY := Box3.made (w.alloc (.cells #[.int .i64 B, .slice da zs.length dc, .slice ca ps.length cc] 25)) (.int .i64 0) (.slice none 0 0) (.slice none 0 0) 25 (w.heap.size + 1) (by simp)
  have hb0 : Below w.heap.size w ((w.alloc (.cells #[.int .i64 B, .slice da zs.length dc, .slice ca ps.length cc] 25)).alloc (.cells #[.int .i64 0, .slice none 0 0, .slice none 0 0] 25)) := ((Below.refl w.heap.size w).alloc (Nat.le_refl _) _).alloc (by simp) _
  have k3 := k1.below hb0
  obtain ⟨x0, x1, x2⟩ := hX.cells
  go_enter Try.func42, Try.ntmps42
  go_wp2_with fail
  rename_i Q' K hK
  obtain ⟨W0, hW0⟩ : ∃ W0, W0 = ((w.alloc (.cells #[.int .i64 B, .slice da zs.length dc, .slice ca ps.length cc] 25)).alloc (.cells #[.int .i64 0, .slice none 0 0, .slice none 0 0] 25)) := ⟨_, rfl⟩
  have hs0 : W0.heap.size = w.heap.size + 1 + 1 := by rw [hW0]; simp
  rw [← hW0] at hX hY hb0 k3 x0 x1 x2
  rw [← hW0]
  have HS0 : Hid (W0.heap.size = w.heap.size + 1 + 1) := hs0
  have hls0 : w.heap.size < W0.heap.size := by omega
  clear hW0 k1 hs0
  refine Code.wp_mono (Q := Exit.then (fun a W => ∃ (x5 x6 x7 x8 x9 x10 : Value) (o gd uc : Nat) (ua : Option Addr), a = ⟨#[.agg #[.int .i64 B, .slice da zs.length dc, .slice ca ps.length cc], .pointer (some ⟨w.heap.size, 0, none⟩), .pointer (some ⟨w.heap.size + 1, 0, none⟩), .pointer (some ⟨o, 0, none⟩), undef, x5, x6, x7, x8, x9, x10, undef, undef, undef, undef, undef, undef, undef, undef, undef, undef, undef, undef, undef, undef, undef, undef, undef, undef, undef, undef, undef, undef, undef, undef, undef, undef, undef], []⟩ ∧ Cp w W o gd B da ca dc cc ua uc zs ps (.slice none 0 0)) Q') ?_ ?_
  · intro e a W hh
    cases e
    case normal =>
      obtain ⟨x5, x6, x7, x8, x9, x10, o, gd, uc, ua, rfl, hC⟩ := hh
      refine hK _ _ ?_
      obtain ⟨_, _, he, hpc⟩ := k2
      simp only [Value.slice.injEq, true_and] at he
      obtain ⟨rfl, rfl⟩ := he
      clear hX hY hb0 k3 x0 x1 x2 hls0 HS0
      go_wp2
      go_loopw [4] (fun i wr => ∃ (k : Nat) (c : Value), k ≤ ps.length ∧ i = .int .i64 k ∧ Cp w wr o gd B da ca dc cc ua uc zs ps c ∧ PRow (fun q => w.heap.size + 2 ≤ q ∧ q ≠ o ∧ q ≠ gd) wr c (ps.take k)) (fun i _ => ps.length - (intOf i).toNat)
      case atStart => exact ⟨0, _, Nat.zero_le _, rfl, hC, by rw [List.take_zero]; exact PRow.nil _ _⟩
      case round =>
        obtain ⟨k, c, hk, rfl, hC, hR⟩ := hrel
        obtain ⟨va, vc, hcv⟩ := hR.form
        have htk : (ps.take k).length = k := by simp; omega
        rw [htk] at hcv
        subst hcv
        obtain ⟨x0, x1, x2⟩ := hC.x.cells
        by_cases hlt : k < ps.length
        · obtain ⟨b, off, rfl, hcell⟩ := hpc (by omega)
          obtain ⟨ea, ec, g1, g2, g3⟩ := hcell k hlt
          have hbw : b < w.heap.size := World.block_lt_of_cell? _ _ g1
          rw [← hC.below.cell (p := ⟨b, off + k * 2, none⟩) hbw] at g1
          rw [← hC.below.cell (p := ⟨b, off + k * 2 + 1, none⟩) hbw] at g2
          have g4 := g3.below hC.below
          have hd := hel k
          have HT : Hid (ps.take (k + 1) = ps.take k ++ [ps.getD k (0, [])]) := take_snoc ps k hlt
          have hki : (k : Int) < (ps.length : Int) := by omega
          have hki0 : (0 : Int) ≤ (k : Int) := by omega
          have htl : (ps.take k).length < 1048576 := by simp; omega
          clear hcell g3
          generalize ps.getD k (0, []) = e at g1 g2 g4 hd HT
          obtain ⟨r, ds⟩ := e
          simp only at g1 g2 g4 hd HT
          obtain ⟨z0, z1, z2⟩ := hC.z.cells
          go_wp2_with fail
          have hq0 : wr.drew.cell? ⟨o, 2, none⟩ = some (.slice va k vc) ∧ wr.drew.cell? ⟨w.heap.size, 2, none⟩ = some (.slice (some ⟨b, off, none⟩) ps.length cc) ∧ wr.drew.cell? ⟨b, off + k * 2, none⟩ = some (.int .i64 r) ∧ wr.drew.cell? ⟨b, off + k * 2 + 1, none⟩ = some (.slice ea ds.length ec) := ⟨z2, x2, g1, g2⟩
          refine wp_region_E (fun w' => w'.cell? ⟨o, 2, none⟩ = some (.slice va k vc) ∧ w'.cell? ⟨w.heap.size, 2, none⟩ = some (.slice (some ⟨b, off, none⟩) ps.length cc) ∧ w'.cell? ⟨b, off + k * 2, none⟩ = some (.int .i64 r) ∧ w'.cell? ⟨b, off + k * 2 + 1, none⟩ = some (.slice ea ds.length ec)) 19 (by kernel_rfl) ?_
          have hzl := hC.z.lt
          have hxl := hC.x.lt
          have HB : ∀ p : Addr, p = ⟨o, 2, none⟩ ∨ p = ⟨w.heap.size, 2, none⟩ ∨ p = ⟨b, off + k * 2, none⟩ ∨ p = ⟨b, off + k * 2 + 1, none⟩ → p.block < wr.drew.heap.size := by
            rintro p (rfl | rfl | rfl | rfl)
            · exact hzl
            · exact hxl
            · exact Nat.lt_trans hbw hxl
            · exact Nat.lt_trans hbw hxl
          have hRd : PRow (fun q => w.heap.size + 2 ≤ q ∧ q ≠ o ∧ q ≠ gd) wr.drew (.slice va k vc) (ps.take k) := hR.below (Below.refl _ _).drew
          have hSd : ∀ q, wr.drew.heap.size ≤ q → w.heap.size + 2 ≤ q ∧ q ≠ o ∧ q ≠ gd := fun q hq => by
            have := hC.ho; have := hC.hg; have := hC.hl
            simp at hq
            omega
          have HN : ∀ p : Addr, p = ⟨o, 2, none⟩ ∨ p = ⟨w.heap.size, 2, none⟩ ∨ p = ⟨b, off + k * 2, none⟩ ∨ p = ⟨b, off + k * 2 + 1, none⟩ → ¬ (w.heap.size + 2 ≤ p.block ∧ p.block ≠ o ∧ p.block ≠ gd) := by
            rintro p (rfl | rfl | rfl | rfl) <;> simp only <;> omega
          clear z0 z1 z2 x0 x1 x2 g1 g2
          refine wpAnyE_take (i := 0) 18 (.pointer (some ⟨o, 2, none⟩)) (by kernel_rfl) rfl (by kernel_rfl) (by kernel_rfl) (by kernel_rfl) (fun _ _ _ h => h) rfl rfl hq0 (fun w' hw => by obtain ⟨m0, m1, m2, m3⟩ := hw; go_simp) ?_
          simp only [Act.put, List.setIfInBounds_toArray, List.set_cons_zero, List.set_cons_succ]
          refine wpAnyE_take (i := 1) 19 (.slice va k vc) (by kernel_rfl) rfl (by kernel_rfl) (by kernel_rfl) (by kernel_rfl) (fun _ _ _ h => h) rfl rfl hq0 (fun w' hw => by obtain ⟨m0, m1, m2, m3⟩ := hw; go_simp) ?_
          simp only [Act.put, List.setIfInBounds_toArray, List.set_cons_zero, List.set_cons_succ]
          refine wpAnyE_take (i := 2) 20 (.pointer (some ⟨w.heap.size, 2, none⟩)) (by kernel_rfl) rfl (by kernel_rfl) (by kernel_rfl) (by kernel_rfl) (fun _ _ _ h => h) rfl rfl hq0 (fun w' hw => by obtain ⟨m0, m1, m2, m3⟩ := hw; go_simp) ?_
          simp only [Act.put, List.setIfInBounds_toArray, List.set_cons_zero, List.set_cons_succ]
          refine wpAnyE_take (i := 3) 21 (.slice (some ⟨b, off, none⟩) ps.length cc) (by kernel_rfl) rfl (by kernel_rfl) (by kernel_rfl) (by kernel_rfl) (fun _ _ _ h => h) rfl rfl hq0 (fun w' hw => by obtain ⟨m0, m1, m2, m3⟩ := hw; go_simp) ?_
          simp only [Act.put, List.setIfInBounds_toArray, List.set_cons_zero, List.set_cons_succ]
          refine wpAnyE_take (i := 4) 22 (.int .i64 k) (by kernel_rfl) rfl (by kernel_rfl) (by kernel_rfl) (by kernel_rfl) (fun _ _ _ h => h) rfl rfl hq0 (fun w' hw => by obtain ⟨m0, m1, m2, m3⟩ := hw; go_simp) ?_
          simp only [Act.put, List.setIfInBounds_toArray, List.set_cons_zero, List.set_cons_succ]
          refine wpAnyE_take (i := 5) 23 (.pointer (some ⟨b, off + k * 2, none⟩)) (by kernel_rfl) rfl (by kernel_rfl) (by kernel_rfl) (by kernel_rfl) (fun _ _ _ h => h) rfl rfl hq0 (fun w' hw => by obtain ⟨m0, m1, m2, m3⟩ := hw; go_simp) ?_
          simp only [Act.put, List.setIfInBounds_toArray, List.set_cons_zero, List.set_cons_succ]
          refine wpAnyE_take (i := 6) 24 (.pointer (some ⟨b, off + k * 2, none⟩)) (by kernel_rfl) rfl (by kernel_rfl) (by kernel_rfl) (by kernel_rfl) (fun _ _ _ h => h) rfl rfl hq0 (fun w' hw => by obtain ⟨m0, m1, m2, m3⟩ := hw; go_simp) ?_
          simp only [Act.put, List.setIfInBounds_toArray, List.set_cons_zero, List.set_cons_succ]
          refine wpAnyE_take (i := 7) 25 (.int .i64 r) (by kernel_rfl) rfl (by kernel_rfl) (by kernel_rfl) (by kernel_rfl) (fun _ _ _ h => h) rfl rfl hq0 (fun w' hw => by obtain ⟨m0, m1, m2, m3⟩ := hw; go_simp) ?_
          simp only [Act.put, List.setIfInBounds_toArray, List.set_cons_zero, List.set_cons_succ]
          refine wpAnyE_take (i := 8) 26 (.pointer (some ⟨w.heap.size, 2, none⟩)) (by kernel_rfl) rfl (by kernel_rfl) (by kernel_rfl) (by kernel_rfl) (fun _ _ _ h => h) rfl rfl hq0 (fun w' hw => by obtain ⟨m0, m1, m2, m3⟩ := hw; go_simp) ?_
          simp only [Act.put, List.setIfInBounds_toArray, List.set_cons_zero, List.set_cons_succ]
          refine wpAnyE_take (i := 9) 27 (.slice (some ⟨b, off, none⟩) ps.length cc) (by kernel_rfl) rfl (by kernel_rfl) (by kernel_rfl) (by kernel_rfl) (fun _ _ _ h => h) rfl rfl hq0 (fun w' hw => by obtain ⟨m0, m1, m2, m3⟩ := hw; go_simp) ?_
          simp only [Act.put, List.setIfInBounds_toArray, List.set_cons_zero, List.set_cons_succ]
          refine wpAnyE_take (i := 10) 28 (.int .i64 k) (by kernel_rfl) rfl (by kernel_rfl) (by kernel_rfl) (by kernel_rfl) (fun _ _ _ h => h) rfl rfl hq0 (fun w' hw => by obtain ⟨m0, m1, m2, m3⟩ := hw; go_simp) ?_
          simp only [Act.put, List.setIfInBounds_toArray, List.set_cons_zero, List.set_cons_succ]
          refine wpAnyE_take (i := 11) 29 (.pointer (some ⟨b, off + k * 2, none⟩)) (by kernel_rfl) rfl (by kernel_rfl) (by kernel_rfl) (by kernel_rfl) (fun _ _ _ h => h) rfl rfl hq0 (fun w' hw => by obtain ⟨m0, m1, m2, m3⟩ := hw; go_simp) ?_
          simp only [Act.put, List.setIfInBounds_toArray, List.set_cons_zero, List.set_cons_succ]
          refine wpAnyE_take (i := 12) 30 (.pointer (some ⟨b, off + k * 2 + 1, none⟩)) (by kernel_rfl) rfl (by kernel_rfl) (by kernel_rfl) (by kernel_rfl) (fun _ _ _ h => h) rfl rfl hq0 (fun w' hw => by obtain ⟨m0, m1, m2, m3⟩ := hw; go_simp) ?_
          simp only [Act.put, List.setIfInBounds_toArray, List.set_cons_zero, List.set_cons_succ]
          refine wpAnyE_take (i := 13) 31 (.slice ea ds.length ec) (by kernel_rfl) rfl (by kernel_rfl) (by kernel_rfl) (by kernel_rfl) (fun _ _ _ h => h) rfl rfl hq0 (fun w' hw => by obtain ⟨m0, m1, m2, m3⟩ := hw; go_simp) ?_
          simp only [Act.put, List.setIfInBounds_toArray, List.set_cons_zero, List.set_cons_succ]
          refine wpAnyE_one (i := 14) (by kernel_rfl) rfl rfl (fun K2 hK2 => ?_)
          go_simp
          go_at_call 43
          refine (l1Copy_any _ ds wr.drew (g4.below (Below.refl _ _).drew) hd).mono ?_
          rintro e w2 ⟨na, nc, gn, rfl, h1, h2, h3, h4⟩
          have hq1 := cells4 (w3 := w2) hq0 (fun p hp => h4.block p.block (HB p hp))
          refine hK2 _ _ (fun _ => hq1) ?_
          clear hK2 K2
          refine wpAnyE_take (i := 15) 33 (.agg #[.int .i64 r, .slice na ds.length nc]) (by kernel_rfl) rfl (by kernel_rfl) (by kernel_rfl) (by kernel_rfl) (fun _ _ _ h => h) rfl rfl hq1 (fun w' hw => by obtain ⟨m0, m1, m2, m3⟩ := hw; go_simp) ?_
          simp only [Act.put, List.setIfInBounds_toArray, List.set_cons_zero, List.set_cons_succ]
          refine wpAnyE_one (i := 16) (by kernel_rfl) rfl rfl (fun K2 hK2 => ?_)
          go_simp
          have hq2 := cells4 (w3 := w2.alloc (.cells #[.int .i64 r, .slice na ds.length nc] 38)) hq1 (fun p hp => (belowA w2 _).block p.block (Nat.lt_of_lt_of_le (HB p hp) h4.size))
          refine hK2 _ _ (fun _ => hq2) ?_
          clear hK2 K2
          refine wpAnyE_one (i := 17) (by kernel_rfl) rfl rfl (fun K2 hK2 => ?_)
          refine wp_appendR _ _ rfl r ds rfl hRd h4 h1 h2 h3 hSd rfl ⟨_, rfl, rfl⟩ htl ?_
          intro v' w3 hR3 hF3
          obtain ⟨va', vc', hv'⟩ := hR3.form_snoc
          rw [htk] at hv'
          subst hv'
          show K2 (Act.put _ (some 35) _) w3
          have hq3 := cells4 (w3 := w3) hq1 (fun p hp => hF3.block p.block (Nat.lt_of_lt_of_le (HB p hp) h4.size) (HN p hp))
          refine hK2 _ _ (fun _ => hq3) ?_
          clear hK2 K2
          simp only [Act.put, List.setIfInBounds_toArray, List.set_cons_zero, List.set_cons_succ]
          refine wpAnyE_take (i := 18) 36 (.pointer (some ⟨o, 2, none⟩)) (by kernel_rfl) rfl (by kernel_rfl) (by kernel_rfl) (by kernel_rfl) (fun _ _ _ h => h) rfl rfl hq3 (fun w' hw => by obtain ⟨m0, m1, m2, m3⟩ := hw; go_simp) ?_
          simp only [Act.put, List.setIfInBounds_toArray, List.set_cons_zero, List.set_cons_succ]
          have hC3 := (hC.step (Frm.of_below (Below.drew (Below.refl _ _) |>.trans h4))).step hF3
          obtain ⟨q0, q1, q2⟩ := hC3.z.cells
          have hfr := hC3.z.free
          refine wpAnyE_one (i := 19) (by kernel_rfl) rfl rfl (fun K2 hK2 => ?_)
          go_simp
          refine hK2 _ _ (fun hne => absurd rfl hne) ?_
          clear hK2 K2
          refine wpAnyE_done (by kernel_rfl) ?_ _
          have hC4 := hC3.store (.slice va' (k + 1) vc')
          have hR4 : PRow (fun q => w.heap.size + 2 ≤ q ∧ q ≠ o ∧ q ≠ gd) (w3.setCell ⟨o, 2, none⟩ (.slice va' (k + 1) vc')) (.slice va' (k + 1) vc') (ps.take (k + 1)) := by
            rw [HT.out]
            exact hR3.kept (by simp) (fun q hq _ => Below.heap_setCell _ _ _ _ hq.2.1)
          clear q0 q1 q2 hfr hq0 hq1 hq2 hq3 hR3 hC3 hF3 h1 h2 h3 h4 hRd hSd HN HB hC hR
          go_wp2
          go_roundw
          case rel => exact ⟨k + 1, _, by omega, by go_num, hC4, hR4⟩
          case measure => simp [intOf]; omega
        · have hke : k = ps.length := by omega
          subst hke
          have hR5 := hR
          rw [List.take_length] at hR5
          obtain ⟨z0, z1, z2⟩ := hC.z.cells
          obtain ⟨y0, y1, y2⟩ := hC.y.cells
          have hfr := hC.y.free
          have hend := fun x y z => Cp.fin hC hR5 x y z
          clear hpc hR hR5 hC
          go_wp2
          exact bodyPost_ret (v := .agg #[.int .i64 B, .slice ua zs.length uc, .slice va ps.length vc]) (by simp [results, Try.results42, go_sem, y0, y1, y2]) rfl ⟨ua, uc, va, vc, gd, rfl, hend _ _ _⟩
    all_goals exact hh
  · go_region_held3 (fun w' => w'.cell? ⟨w.heap.size, 0, none⟩ = some (.int .i64 B) ∧ w'.cell? ⟨w.heap.size, 1, none⟩ = some (.slice da zs.length dc)) (first | go_keep | assumption | exact box_stored2 (by assumption) (by omega) _ _ _)
      (first | (go_at_call 43; refine (l1Copy_any _ zs W0.drew (k3.below (Below.refl _ _).drew) hzl).mono ?_; rintro e w1 ⟨ua, uc, gd, rfl, h1, h2, h3, h4⟩; have hq := box_after hX h4; have hls : w.heap.size < w1.heap.size := (Nat.lt_of_lt_of_le hls0 (by have := h4.size; simp at this; omega))) | (go_at_call 43; refine (l1Copy_any _ zs (W0.drew.alloc (.cells #[.int .i64 0, .slice none 0 0, .slice none 0 0] 25)) (k3.below ((Below.refl _ _).drew.trans (belowA W0.drew _))) hzl).mono ?_; rintro e w1 ⟨ua, uc, gd, rfl, h1, h2, h3, h4⟩; have hq := box_after2 hX h4; have hls : w.heap.size < w1.heap.size := (Nat.lt_of_lt_of_le hls0 (by have := h4.size; simp at this; omega)); have hZ := Box3.below (Box3.made W0.drew (.int .i64 0) (.slice none 0 0) (.slice none 0 0) 25 W0.heap.size rfl) h4; obtain ⟨z0, z1, z2⟩ := hZ.cells; have hfr := hZ.free))
    · have hXw := Box3.below (w := W0.drew) hX h4
      have hYw := Box3.below (w := W0.drew) hY h4
      have hs1 := h4.size
      have hs0 := HS0.out
      simp only [World.size_drew] at hs1 h1
      have hbw : Below w.heap.size w w1 := hb0.drew.trans (h4.mono (by simp; omega))
      exact ⟨_, _, _, _, _, _, w1.heap.size, gd, uc, ua, rfl, Cp.start1 hXw hYw h3 (by omega) (by omega) h2 hbw⟩
    · have hs1 := h4.size
      have hs0 := HS0.out
      have hXw := Box3.below (w := W0.drew.alloc _) (Box3.alloc (w := W0.drew) hX _) h4
      have hYw := Box3.below (w := W0.drew.alloc _) (Box3.alloc (w := W0.drew) hY _) h4
      have hbw : Below w.heap.size w w1 := (hb0.drew.trans ((belowA W0.drew _).mono (by simp; omega))).trans (h4.mono (by simp; omega))
      simp only [World.size_alloc, World.size_drew] at hs1 h1
      exact ⟨_, _, _, _, _, _, W0.heap.size, gd, uc, ua, rfl, Cp.start hXw hYw hZ h3 (by omega) (by omega) h2 (by omega) hbw⟩
end Go.Proofs.Ytbadedhliplkeaa
