import Derived.Test.YtfbjagjgofdheaaGreatDoorQh
import Derived.Test.YtfbjagjgofdheaaGreatDoorLj
namespace Go.Proofs.YtfbjagjgofdheaaGreatDoor
open Go.RowKit
set_option linter.unusedVariables false

/-- l2DrawSuper at work -/
structure Du (w : World) (base g : Nat) (a : Option Addr) (c : Nat) (zs : List Int) (X : Nat) (N G nx tb : Int) (v : Value) (rs : List R2) (p : Nat × Int) (W : World) : Prop where
  res : W.heap[w.heap.size]? = some (.cells #[.int .i64 0, .int .i64 0, .int .i64 0, .int .i64 0, .slice none 0 0] 41 (0, 0))
  box : W.heap[X]? = some (.cells #[.int .i64 N, .int .i64 G, .int .i64 nx, .int .i64 tb, v] 41 (0, 0))
  own : W.ownsRow (X + 1) 46 2 v rs.length (rs.flatMap flat2)
  hX : w.heap.size < X
  src : SrcX base g a c zs p W
  frm : Frm (· = g) w W
  glt : g < w.heap.size
section
variable {w : World} {base g : Nat} {a : Option Addr} {c : Nat} {zs : List Int} {X : Nat} {N G nx tb : Int} {v : Value} {rs : List R2} {p p' : Nat × Int} {W W' : World}
theorem Du.call (h : Du w base g a c zs X N G nx tb v rs p W) (hs : SrcX base g a c zs p' W') (hf : Frm (· = g) W W') : Du w base g a c zs X N G nx tb v rs p' W' := by
  have hlt : X < W.heap.size := (Array.getElem?_eq_some_iff.1 h.box).1
  have h1 := h.hX
  have h2 := h.glt
  refine ⟨(hf.block _ (by omega) (by show ¬ w.heap.size = g; omega)).trans h.res, (hf.block _ hlt (by show ¬ X = g; omega)).trans h.box, ?_, h1, hs, h.frm.trans hf, h2⟩
  refine ⟨h.own.1, ?_⟩
  rcases h.own.2 with hv | ⟨q, cap, cur, hv, e1, e2, e3⟩
  · exact .inl hv
  · exact .inr ⟨q, cap, cur, hv, e1, (hf.block q (Array.getElem?_eq_some_iff.1 e2).1 (by show ¬ q = g; omega)).trans e2, e3⟩
theorem Du.below (h : Du w base g a c zs X N G nx tb v rs p W) (hb : Below W.heap.size W W') : Du w base g a c zs X N G nx tb v rs p W' := h.call (h.src.below hb) (Frm.of_below hb)
theorem Du.cells (h : Du w base g a c zs X N G nx tb v rs p W) : W.cell? ⟨X, 0, none⟩ = some (.int .i64 N) ∧ W.cell? ⟨X, 1, none⟩ = some (.int .i64 G) ∧ W.cell? ⟨X, 2, none⟩ = some (.int .i64 nx) ∧ W.cell? ⟨X, 3, none⟩ = some (.int .i64 tb) ∧ W.cell? ⟨X, 4, none⟩ = some v ∧ (∀ i, W.frozen? ⟨X, i, none⟩ = false) :=
  ⟨(cell_of_row W X 0 _ _ _ h.box).trans rfl, (cell_of_row W X 1 _ _ _ h.box).trans rfl, (cell_of_row W X 2 _ _ _ h.box).trans rfl, (cell_of_row W X 3 _ _ _ h.box).trans rfl, (cell_of_row W X 4 _ _ _ h.box).trans rfl, fun i => frozen_of_row W X i _ _ h.box⟩
/-- one of the box's cells written -/
theorem Du.set (h : Du w base g a c zs X N G nx tb v rs p W) (i : Nat) (u : Value) {N' G' nx' tb' : Int} (hb : (W.setCell ⟨X, i, none⟩ u).heap[X]? = some (.cells #[.int .i64 N', .int .i64 G', .int .i64 nx', .int .i64 tb', v] 41 (0, 0))) : Du w base g a c zs X N' G' nx' tb' v rs p (W.setCell ⟨X, i, none⟩ u) := by
  have h1 := h.hX
  have h2 := h.glt
  have h4 := h.src.lo
  have hf : Frm (fun b => b = X) W (W.setCell ⟨X, i, none⟩ u) := ⟨rfl, rfl, rfl, by simp [World.setCell], fun k _ hn => Below.heap_setCell _ _ _ _ hn⟩
  have hfw := h.frm
  exact ⟨(Below.heap_setCell _ ⟨X, i, none⟩ _ _ (by show w.heap.size ≠ X; omega)).trans h.res, hb, owns_set h.own _ (by show X < X + 1; omega) _, h1, h.src.frm hf (by show ¬ g = X; omega) (fun b hb => by omega), ⟨hf.os.trans hfw.os, hf.tape.trans hfw.tape, hf.output.trans hfw.output, Nat.le_trans hfw.size hf.size, fun i hi hn => (hf.block i (by have := hfw.size; omega) (by show ¬ i = X; omega)).trans (hfw.block i hi hn)⟩, h2⟩
theorem Du.set1 (h : Du w base g a c zs X N G nx tb v rs p W) (k : Int) : Du w base g a c zs X N k nx tb v rs p (W.setCell ⟨X, 1, none⟩ (.int .i64 k)) := h.set 1 _ (by simpa using heap_setCell_same W X 1 _ _ (.int .i64 k) h.box)
theorem Du.set2 (h : Du w base g a c zs X N G nx tb v rs p W) (k : Int) : Du w base g a c zs X N G k tb v rs p (W.setCell ⟨X, 2, none⟩ (.int .i64 k)) := h.set 2 _ (by simpa using heap_setCell_same W X 2 _ _ (.int .i64 k) h.box)
theorem Du.set3 (h : Du w base g a c zs X N G nx tb v rs p W) (k : Int) : Du w base g a c zs X N G nx k v rs p (W.setCell ⟨X, 3, none⟩ (.int .i64 k)) := h.set 3 _ (by simpa using heap_setCell_same W X 3 _ _ (.int .i64 k) h.box)
end

set_option maxRecDepth 100000 in
set_option maxHeartbeats 16000000 in
theorem l2DrawSuper_x (base g : Nat) (a : Option Addr) (c : Nat) (zs : List Int) (p : Nat × Int) (w : World) (hs : SrcX base g a c zs p w) :
    Calls Tryz.prog 36 #[.pointer (some ⟨g, 0, none⟩)] w fun e w' => (∃ a c, e = .returned (.agg #[.int .i64 (dsB zs p), .int .i64 (dsG zs p), .int .i64 (dsX zs p), .int .i64 (dsT zs p), .slice a (dsR zs p).1.length c]) ∧ TRead w' (.slice a (dsR zs p).1.length c) (dsR zs p).1) ∧ SrcX base g a c zs (dsS zs p) w' ∧ Frm (· = g) w w' := by
  have hgl := hs.lt
  have hBi := dsB_in zs p
  have hTi := dsT_in zs p
  have hNi := dsN_in zs p
  have H1 : Hid (ds1 zs p = nxS zs (dbS zs p)) := rfl
  have HG : Hid (dsG zs p = if nxV zs (ds1 zs p) 8 = 0 then 1099511627776 - nxV zs (nxS zs (ds1 zs p)) 2 else 1 + nxV zs (dbS zs p) 300) := rfl
  have H2 : Hid (ds2 zs p = if nxV zs (ds1 zs p) 8 = 0 then nxS zs (nxS zs (ds1 zs p)) else nxS zs (ds1 zs p)) := rfl
  have HT : Hid (2 + nxV zs (ds2 zs p) (dsB zs p - 2) = dsT zs p) := rfl
  have H3 : Hid (nxS zs (ds2 zs p) = ds3 zs p) := rfl
  have HN : Hid (dsN zs p = if nxV zs (nxS zs (ds3 zs p)) 6 = 0 then 16 else 1 + nxV zs (ds3 zs p) 4) := rfl
  have H4 : Hid (nxS zs (nxS zs (ds3 zs p)) = ds4 zs p) := rfl
  have HR0 : Hid (dsL zs (dsB zs p) [] 1 (ds4 zs p) (dsN zs p).toNat = dsR zs p) := rfl
  have HX : Hid (dsX zs p = if nxV zs (dsR zs p).2.2 8 = 0 then 65535 else (dsR zs p).2.1) := rfl
  have HS : Hid (nxS zs (dsR zs p).2.2 = dsS zs p) := rfl
  have HBL : Hid _ := fun w hs => l1DrawBlocks_x base g a c zs p w hs
  have HB0 : Hid (dbV zs p = dsB zs p) := rfl
  rw [HB0.out] at HBL
  obtain ⟨n, hn⟩ : ∃ n : Nat, dsN zs p = n := ⟨(dsN zs p).toNat, by omega⟩
  rw [hn] at HN hNi
  rw [hn, Int.toNat_natCast] at HR0
  generalize dsR zs p = R at *
  generalize dsX zs p = NX at *
  generalize dsT zs p = T at *
  generalize dsG zs p = G at *
  generalize dsS zs p = pE at *
  generalize dsB zs p = B at *
  generalize ds4 zs p = q4 at *
  generalize ds3 zs p = q3 at *
  generalize ds2 zs p = q2 at *
  rw [H1.out] at HG H2
  generalize dbS zs p = q0 at *
  clear hn HB0 H1
  have hb0 := belowA w (.cells #[.int .i64 0, .int .i64 0, .int .i64 0, .int .i64 0, .slice none 0 0] 41)
  have hx : (w.alloc (.cells #[.int .i64 0, .int .i64 0, .int .i64 0, .int .i64 0, .slice none 0 0] 41)).heap[w.heap.size]? = some (.cells #[.int .i64 0, .int .i64 0, .int .i64 0, .int .i64 0, .slice none 0 0] 41 (0, 0)) := heap_alloc_new _ _
  have hs0 := hs.below hb0
  have hf0 : Frm (· = g) w (w.alloc (.cells #[.int .i64 0, .int .i64 0, .int .i64 0, .int .i64 0, .slice none 0 0] 41)) := Frm.of_below hb0
  clear hb0 hs
  go_enter Tryz.func36, Tryz.ntmps36
  go_wp2_with fail
  refine (HBL.out _ hs0).mono ?_
  rintro e w1 ⟨rfl, hs1, hf1⟩
  have hx1 := (hf1.block _ (Array.getElem?_eq_some_iff.1 hx).1 (by show ¬ w.heap.size = g; omega)).trans hx
  have hf1' := hf0.trans hf1
  have hv3 := nxV_in zs q0 (n := 300) (by decide) (by decide)
  clear hs0 hf0 hx hf1 HBL
  go_wp2_with fail
  refine (l1Next_x base g a c zs _ 300 (by decide) (by decide) _ hs1).mono ?_
  rintro e w2 ⟨rfl, hs2, hf2⟩
  have hx2 := (hf2.block _ (Array.getElem?_eq_some_iff.1 hx1).1 (by show ¬ w.heap.size = g; omega)).trans hx1
  have hf2' := hf1'.trans hf2
  generalize nxV zs q0 300 = y3 at *
  have wg : IntKind.i64.wrap (1 + y3) = 1 + y3 := IntWalk.i64_in _ ⟨by omega, by omega⟩
  clear hs1 hf1' hx1 hf2
  have hb3 := belowA w2 (.cells #[.int .i64 B, .int .i64 (1 + y3), .int .i64 1, .int .i64 0, .slice none 0 0] 41)
  have hD3 : Du w base g a c zs w2.heap.size B (1 + y3) 1 0 (.slice none 0 0) [] (nxS zs q0) (w2.alloc (.cells #[.int .i64 B, .int .i64 (1 + y3), .int .i64 1, .int .i64 0, .slice none 0 0] 41)) := ⟨(hb3.block _ (Array.getElem?_eq_some_iff.1 hx2).1).trans hx2, heap_alloc_new _ _, World.ownsRow_nil _ _ _ _, (Array.getElem?_eq_some_iff.1 hx2).1, hs2.below hb3, hf2'.trans (Frm.of_below hb3), hgl⟩
  obtain ⟨X, HXX⟩ : ∃ X, Hid (w2.heap.size = X) := ⟨_, rfl⟩
  rw [HXX.out] at hD3
  clear hx2 hs2 hf2' hb3
  go_wp2_with fail
  rw [HXX.out]
  generalize w2.alloc (.cells #[.int .i64 B, .int .i64 (1 + y3), .int .i64 1, .int .i64 0, .slice none 0 0] 41) = W3 at *
  refine (l1Next_x base g a c zs _ 8 (by decide) (by decide) _ hD3.src).mono ?_
  rintro e w4 ⟨rfl, hs4, hf4⟩
  have hD4 := hD3.call hs4 hf4
  clear hD3 hs4 hf4
  generalize nxV zs (nxS zs q0) 8 = y8 at *
  have hjoin : ∀ (W : World) (K : Prop), True := fun _ _ => trivial
  clear hjoin
  by_cases h8 : y8 = 0
  · have h8b : (y8 == 0) = true := by simpa using h8
    rw [if_pos h8] at HG H2
    have hv2 := nxV_in zs (nxS zs (nxS zs q0)) (n := 2) (by decide) (by decide)
    obtain ⟨u0, u1, u2, u3, u4, uf⟩ := hD4.cells
    have HD4 : Hid _ := hD4
    clear h8 hD4 uf
    go_wp2_with fail
    refine (l1Next_x base g a c zs _ 2 (by decide) (by decide) _ HD4.out.src).mono ?_
    rintro e w5 ⟨rfl, hs5, hf5⟩
    have hD5 := HD4.out.call hs5 hf5
    rw [← H2.out] at hD5
    generalize nxV zs (nxS zs (nxS zs q0)) 2 = y2 at *
    have wG : IntKind.i64.wrap (1099511627776 - y2) = G := by rw [HG.out]; exact IntWalk.i64_in _ ⟨by omega, by omega⟩
    clear u0 u1 u2 u3 u4 HD4 hs5 hf5 HG H2
    obtain ⟨u0, u1, u2, u3, u4, uf⟩ := hD5.cells
    have uf1 := uf 1
    have HD5 : Hid _ := hD5
    clear hD5 uf
    go_upto_region 4 with fail
    have hD5 := HD5.out.set1 G
    clear u0 u1 u2 u3 u4 uf1 HD5 wG
    generalize w5.setCell ⟨X, 1, none⟩ (.int .i64 G) = W5 at *
    obtain ⟨u0, u1, u2, u3, u4, uf⟩ := hD5.cells
    have uf3 := uf 3
    have wb : IntKind.i64.wrap (B - 2) = B - 2 := IntWalk.i64_in _ ⟨by omega, by omega⟩
    have HD5 : Hid _ := hD5
    clear hD5 uf
    go_wp2_with fail
    refine (l1Next_x base g a c zs q2 (B - 2) (by omega) (by omega) _ HD5.out.src).mono ?_
    rintro e w6 ⟨rfl, hs6, hf6⟩
    have hD6 := HD5.out.call hs6 hf6
    rw [H3.out] at hD6
    generalize nxV zs q2 (B - 2) = yT at *
    have wT : IntKind.i64.wrap (2 + yT) = T := by rw [HT.out]; exact IntWalk.i64_in _ ⟨by omega, by omega⟩
    have HD6 : Hid _ := hD6
    clear u0 u1 u2 u3 u4 uf3 HD5 hs6 hf6 hD6 HT H3
    obtain ⟨u0, u1, u2, u3, u4, uf⟩ := HD6.out.cells
    have uf3 := uf 3
    clear uf
    go_upto_region 5 with fail
    have hD7 := HD6.out.set3 T
    clear u0 u1 u2 u3 u4 uf3 HD6 wT
    generalize w6.setCell ⟨X, 3, none⟩ (.int .i64 T) = W7 at *
    have hv4 := nxV_in zs q3 (n := 4) (by decide) (by decide)
    go_wp2_with fail
    refine (l1Next_x base g a c zs q3 4 (by decide) (by decide) _ hD7.src).mono ?_
    rintro e w8 ⟨rfl, hs8, hf8⟩
    have hD8 := hD7.call hs8 hf8
    generalize nxV zs q3 4 = y4 at *
    have w4e : IntKind.i64.wrap (1 + y4) = 1 + y4 := IntWalk.i64_in _ ⟨by omega, by omega⟩
    clear hD7 hs8 hf8
    go_wp2_with fail
    refine (l1Next_x base g a c zs _ 6 (by decide) (by decide) _ hD8.src).mono ?_
    rintro e w9 ⟨rfl, hs9, hf9⟩
    have hD9 := hD8.call hs9 hf9
    rw [H4.out] at hD9
    have HD9 : Hid (Du w base g a c zs X B G 1 T (.slice none 0 0) [] q4 w9) := hD9
    generalize nxV zs (nxS zs q3) 6 = y6 at *
    clear hD8 hs9 hf9 hD9 H4
    by_cases h6 : y6 = 0
    · have h6b : (y6 == 0) = true := by simpa using h6
      rw [if_pos h6] at HN
      have hn16 : (n : Int) = 16 := HN.out
      have hnn : n = 16 := by omega
      subst hnn
      clear h6 HN hn16 hv4 w4e
      go_wp2
      go_loopw [5] (fun i wr => ∃ (rs : List R2) (v : Value) (nx : Int) (p1 : Nat × Int) (m : Nat), rs.length + m = 16 ∧ i = .int .i64 rs.length ∧ dsL zs B rs nx p1 m = R ∧ Du w base g a c zs X B G nx T v rs p1 wr ∧ (1 ≤ nx ∧ nx ≤ 1 + 3 * rs.length)) (fun i _ => 16 - (intOf i).toNat)
      case atStart => exact ⟨[], _, 1, q4, 16, by simp, rfl, HR0.out, HD9.out, by simp⟩
      case round =>
        obtain ⟨rs, v, nx, p1, m, hm, rfl, hR, hD, hnx⟩ := hrel
        clear HD9 HR0
        obtain ⟨k, hkk⟩ : ∃ k, rs.length = k := ⟨_, rfl⟩
        obtain ⟨va, vc, hva, hvf⟩ := owns_form hD.own
        rw [hkk] at hva hm hnx ⊢
        subst hva
        cases m with
        | zero =>
          have hki : ¬ (k : Int) < 16 := by omega
          have hRe : R = (rs, nx, p1) := by rw [← hR]; rfl
          have HD : Hid _ := hD
          clear hR hD
          go_wp2_with fail
          refine (l1Next_x base g a c zs p1 8 (by decide) (by decide) _ HD.out.src).mono ?_
          rintro e wa ⟨rfl, hsa, hfa⟩
          have hDa := HD.out.call hsa hfa
          rw [hRe] at HX HS
          simp only at HX HS
          rw [HS.out] at hDa
          generalize nxV zs p1 8 = yy at *
          have HRE : Hid (R = (rs, nx, p1)) := hRe
          have HVF : Hid (Fsh (X + 1) va) := hvf
          clear HD hsa hfa hRe hvf
          by_cases hy : yy = 0
          · have hyb : (yy == 0) = true := by simpa using hy
            rw [if_pos hy] at HX
            have hNX : NX = 65535 := HX.out
            subst hNX
            obtain ⟨u0, u1, u2, u3, u4, uf⟩ := hDa.cells
            have uf2 := uf 2
            have HDa : Hid _ := hDa
            clear hy HX hDa uf
            go_upto_region 16 with fail
            have hDb := HDa.out.set2 65535
            clear u0 u1 u2 u3 u4 uf2 HDa
            generalize wa.setCell ⟨X, 2, none⟩ (.int .i64 65535) = Wb at *
            obtain ⟨u0, u1, u2, u3, u4, uf⟩ := hDb.cells
            have hres := hDb.res
            have hcy : Wb.cell? ⟨w.heap.size, 0, none⟩ = some (.int .i64 0) ∧ Wb.cell? ⟨w.heap.size, 1, none⟩ = some (.int .i64 0) ∧ Wb.cell? ⟨w.heap.size, 2, none⟩ = some (.int .i64 0) ∧ Wb.cell? ⟨w.heap.size, 3, none⟩ = some (.int .i64 0) ∧ Wb.cell? ⟨w.heap.size, 4, none⟩ = some (.slice none 0 0) := by simp [World.cell?, hres]
            obtain ⟨r0, r1, r2, r3, r4⟩ := hcy
            have hfy : ∀ i, Wb.frozen? ⟨w.heap.size, i, none⟩ = false := fun i => frozen_of_row Wb _ i _ _ hres
            have z0 := hfy 0
            have z1 := hfy 1
            have z2 := hfy 2
            have z3 := hfy 3
            have z4 := hfy 4
            have hlR : R.1.length = k := by rw [HRE.out]; exact hkk
            have hrd : TRead Wb (.slice va k vc) R.1 := by
              have q := hDb.own
              have q2 := owns_T (rs := rs) (a := va) (c := vc) (base := X + 1) (W := Wb) (by rw [hkk] at q ⊢; exact q)
              rw [hkk] at q2
              rw [HRE.out]
              exact q2
            have HEND : Hid (TRead (((((Wb.setCell ⟨w.heap.size, 0, none⟩ (.int .i64 B)).setCell ⟨w.heap.size, 1, none⟩ (.int .i64 G)).setCell ⟨w.heap.size, 2, none⟩ (.int .i64 65535)).setCell ⟨w.heap.size, 3, none⟩ (.int .i64 T)).setCell ⟨w.heap.size, 4, none⟩ (.slice va k vc)) (.slice va k vc) R.1 ∧ SrcX base g a c zs pE (((((Wb.setCell ⟨w.heap.size, 0, none⟩ (.int .i64 B)).setCell ⟨w.heap.size, 1, none⟩ (.int .i64 G)).setCell ⟨w.heap.size, 2, none⟩ (.int .i64 65535)).setCell ⟨w.heap.size, 3, none⟩ (.int .i64 T)).setCell ⟨w.heap.size, 4, none⟩ (.slice va k vc)) ∧ Frm (· = g) w (((((Wb.setCell ⟨w.heap.size, 0, none⟩ (.int .i64 B)).setCell ⟨w.heap.size, 1, none⟩ (.int .i64 G)).setCell ⟨w.heap.size, 2, none⟩ (.int .i64 65535)).setCell ⟨w.heap.size, 3, none⟩ (.int .i64 T)).setCell ⟨w.heap.size, 4, none⟩ (.slice va k vc))) := by
              have hu : Upd w.heap.size (w.heap.size + 1) Wb (((((Wb.setCell ⟨w.heap.size, 0, none⟩ (.int .i64 B)).setCell ⟨w.heap.size, 1, none⟩ (.int .i64 G)).setCell ⟨w.heap.size, 2, none⟩ (.int .i64 65535)).setCell ⟨w.heap.size, 3, none⟩ (.int .i64 T)).setCell ⟨w.heap.size, 4, none⟩ (.slice va k vc)) := (((((Upd.refl _ _ _).setCell (p := ⟨w.heap.size, 0, none⟩) (Nat.le_refl _) (Nat.lt_succ_self _) _).setCell (p := ⟨w.heap.size, 1, none⟩) (Nat.le_refl _) (Nat.lt_succ_self _) _).setCell (p := ⟨w.heap.size, 2, none⟩) (Nat.le_refl _) (Nat.lt_succ_self _) _).setCell (p := ⟨w.heap.size, 3, none⟩) (Nat.le_refl _) (Nat.lt_succ_self _) _).setCell (p := ⟨w.heap.size, 4, none⟩) (Nat.le_refl _) (Nat.lt_succ_self _) _
              have hfu : Frm (fun b => b = w.heap.size) Wb (((((Wb.setCell ⟨w.heap.size, 0, none⟩ (.int .i64 B)).setCell ⟨w.heap.size, 1, none⟩ (.int .i64 G)).setCell ⟨w.heap.size, 2, none⟩ (.int .i64 65535)).setCell ⟨w.heap.size, 3, none⟩ (.int .i64 T)).setCell ⟨w.heap.size, 4, none⟩ (.slice va k vc)) := ⟨hu.os, hu.tape, hu.output, hu.size, fun i hi hn => hu.block i hi (by omega)⟩
              have hlo := hDb.src.lo
              have hXX := hDb.hX
              have hFF := hDb.frm
              refine ⟨hrd.upd (fun q hq => by have := HVF.out q hq; omega) hu, hDb.src.frm hfu (by show ¬ g = w.heap.size; omega) (fun b hb => by omega), ?_⟩
              exact ⟨hu.os.trans hFF.os, hu.tape.trans hFF.tape, hu.output.trans hFF.output, Nat.le_trans hFF.size hu.size, fun i hi hn => (hu.block i (by have := hFF.size; omega) (.inl hi)).trans (hFF.block i hi hn)⟩
            have HLR : Hid (R.1.length = k) := hlR
            clear hres hfy hlR hrd hDb uf
            go_wp2
            exact bodyPost_ret (v := .agg #[.int .i64 B, .int .i64 G, .int .i64 65535, .int .i64 T, .slice va k vc]) (by simp [results, Tryz.results36, go_sem, r0, r1, r2, r3, r4]) rfl ⟨⟨va, vc, by rw [HLR.out], by rw [HLR.out]; exact HEND.out.1⟩, HEND.out.2⟩
          · have hyb : (yy == 0) = false := by simpa using hy
            rw [if_neg hy] at HX
            have hNX : NX = nx := HX.out
            subst hNX
            have hDb := hDa
            clear hy HX hDa
            generalize wa = Wb at *
            obtain ⟨u0, u1, u2, u3, u4, uf⟩ := hDb.cells
            have hres := hDb.res
            have hcy : Wb.cell? ⟨w.heap.size, 0, none⟩ = some (.int .i64 0) ∧ Wb.cell? ⟨w.heap.size, 1, none⟩ = some (.int .i64 0) ∧ Wb.cell? ⟨w.heap.size, 2, none⟩ = some (.int .i64 0) ∧ Wb.cell? ⟨w.heap.size, 3, none⟩ = some (.int .i64 0) ∧ Wb.cell? ⟨w.heap.size, 4, none⟩ = some (.slice none 0 0) := by simp [World.cell?, hres]
            obtain ⟨r0, r1, r2, r3, r4⟩ := hcy
            have hfy : ∀ i, Wb.frozen? ⟨w.heap.size, i, none⟩ = false := fun i => frozen_of_row Wb _ i _ _ hres
            have z0 := hfy 0
            have z1 := hfy 1
            have z2 := hfy 2
            have z3 := hfy 3
            have z4 := hfy 4
            have hlR : R.1.length = k := by rw [HRE.out]; exact hkk
            have hrd : TRead Wb (.slice va k vc) R.1 := by
              have q := hDb.own
              have q2 := owns_T (rs := rs) (a := va) (c := vc) (base := X + 1) (W := Wb) (by rw [hkk] at q ⊢; exact q)
              rw [hkk] at q2
              rw [HRE.out]
              exact q2
            have HEND : Hid (TRead (((((Wb.setCell ⟨w.heap.size, 0, none⟩ (.int .i64 B)).setCell ⟨w.heap.size, 1, none⟩ (.int .i64 G)).setCell ⟨w.heap.size, 2, none⟩ (.int .i64 NX)).setCell ⟨w.heap.size, 3, none⟩ (.int .i64 T)).setCell ⟨w.heap.size, 4, none⟩ (.slice va k vc)) (.slice va k vc) R.1 ∧ SrcX base g a c zs pE (((((Wb.setCell ⟨w.heap.size, 0, none⟩ (.int .i64 B)).setCell ⟨w.heap.size, 1, none⟩ (.int .i64 G)).setCell ⟨w.heap.size, 2, none⟩ (.int .i64 NX)).setCell ⟨w.heap.size, 3, none⟩ (.int .i64 T)).setCell ⟨w.heap.size, 4, none⟩ (.slice va k vc)) ∧ Frm (· = g) w (((((Wb.setCell ⟨w.heap.size, 0, none⟩ (.int .i64 B)).setCell ⟨w.heap.size, 1, none⟩ (.int .i64 G)).setCell ⟨w.heap.size, 2, none⟩ (.int .i64 NX)).setCell ⟨w.heap.size, 3, none⟩ (.int .i64 T)).setCell ⟨w.heap.size, 4, none⟩ (.slice va k vc))) := by
              have hu : Upd w.heap.size (w.heap.size + 1) Wb (((((Wb.setCell ⟨w.heap.size, 0, none⟩ (.int .i64 B)).setCell ⟨w.heap.size, 1, none⟩ (.int .i64 G)).setCell ⟨w.heap.size, 2, none⟩ (.int .i64 NX)).setCell ⟨w.heap.size, 3, none⟩ (.int .i64 T)).setCell ⟨w.heap.size, 4, none⟩ (.slice va k vc)) := (((((Upd.refl _ _ _).setCell (p := ⟨w.heap.size, 0, none⟩) (Nat.le_refl _) (Nat.lt_succ_self _) _).setCell (p := ⟨w.heap.size, 1, none⟩) (Nat.le_refl _) (Nat.lt_succ_self _) _).setCell (p := ⟨w.heap.size, 2, none⟩) (Nat.le_refl _) (Nat.lt_succ_self _) _).setCell (p := ⟨w.heap.size, 3, none⟩) (Nat.le_refl _) (Nat.lt_succ_self _) _).setCell (p := ⟨w.heap.size, 4, none⟩) (Nat.le_refl _) (Nat.lt_succ_self _) _
              have hfu : Frm (fun b => b = w.heap.size) Wb (((((Wb.setCell ⟨w.heap.size, 0, none⟩ (.int .i64 B)).setCell ⟨w.heap.size, 1, none⟩ (.int .i64 G)).setCell ⟨w.heap.size, 2, none⟩ (.int .i64 NX)).setCell ⟨w.heap.size, 3, none⟩ (.int .i64 T)).setCell ⟨w.heap.size, 4, none⟩ (.slice va k vc)) := ⟨hu.os, hu.tape, hu.output, hu.size, fun i hi hn => hu.block i hi (by omega)⟩
              have hlo := hDb.src.lo
              have hXX := hDb.hX
              have hFF := hDb.frm
              refine ⟨hrd.upd (fun q hq => by have := HVF.out q hq; omega) hu, hDb.src.frm hfu (by show ¬ g = w.heap.size; omega) (fun b hb => by omega), ?_⟩
              exact ⟨hu.os.trans hFF.os, hu.tape.trans hFF.tape, hu.output.trans hFF.output, Nat.le_trans hFF.size hu.size, fun i hi hn => (hu.block i (by have := hFF.size; omega) (.inl hi)).trans (hFF.block i hi hn)⟩
            have HLR : Hid (R.1.length = k) := hlR
            clear hres hfy hlR hrd hDb uf
            go_wp2
            exact bodyPost_ret (v := .agg #[.int .i64 B, .int .i64 G, .int .i64 NX, .int .i64 T, .slice va k vc]) (by simp [results, Tryz.results36, go_sem, r0, r1, r2, r3, r4]) rfl ⟨⟨va, vc, by rw [HLR.out], by rw [HLR.out]; exact HEND.out.1⟩, HEND.out.2⟩
        | succ m =>
          have hki : (k : Int) < 16 := by omega
          have HR : Hid (dsL zs B rs nx p1 (m + 1) = R) := hR
          clear hR
          obtain ⟨u0, u1, u2, u3, u4, uf⟩ := hD.cells
          have HD : Hid _ := hD
          clear hD
          go_wp2_with fail
          refine wp_region_E (fun w' => w'.cell? ⟨X, 2, none⟩ = some (.int .i64 nx)) 6 (by kernel_rfl) ?_
          have hq0 : (fun w' : World => w'.cell? ⟨X, 2, none⟩ = some (.int .i64 nx)) wr.drew := u2
          refine wpAnyE_take (i := 0) 37 (.pointer (some ⟨X, 2, none⟩)) (by kernel_rfl) rfl (by kernel_rfl) (by kernel_rfl) (by kernel_rfl) (fun _ _ _ h => h) rfl rfl hq0 (fun w' hw => by have m0 : w'.cell? ⟨X, 2, none⟩ = some (.int .i64 nx) := hw; go_simp <;> first | omega | kernel_rfl | decide) ?_
          simp only [Act.put, List.setIfInBounds_toArray, List.set_cons_zero, List.set_cons_succ]
          refine wpAnyE_take (i := 1) 38 (.int .i64 nx) (by kernel_rfl) rfl (by kernel_rfl) (by kernel_rfl) (by kernel_rfl) (fun _ _ _ h => h) rfl rfl hq0 (fun w' hw => by have m0 : w'.cell? ⟨X, 2, none⟩ = some (.int .i64 nx) := hw; go_simp <;> first | omega | kernel_rfl | decide) ?_
          simp only [Act.put, List.setIfInBounds_toArray, List.set_cons_zero, List.set_cons_succ]
          refine wpAnyE_take (i := 2) 39 (.pointer (some ⟨g, 0, none⟩)) (by kernel_rfl) rfl (by kernel_rfl) (by kernel_rfl) (by kernel_rfl) (fun _ _ _ h => h) rfl rfl hq0 (fun w' hw => by have m0 : w'.cell? ⟨X, 2, none⟩ = some (.int .i64 nx) := hw; go_simp <;> first | omega | kernel_rfl | decide) ?_
          simp only [Act.put, List.setIfInBounds_toArray, List.set_cons_zero, List.set_cons_succ]
          refine wpAnyE_one (i := 3) (by kernel_rfl) rfl rfl (fun K2 hK2 => ?_)
          go_simp
          refine (l1Next_x base g a c zs p1 3 (by decide) (by decide) wr.drew (HD.out.src.heap rfl)).mono ?_
          rintro e wc ⟨rfl, hsc, hfc⟩
          have hDc := (HD.out.call (W' := wr.drew) (HD.out.src.heap rfl) ((Frm.refl _ _).drew)).call hsc hfc
          have hv3c := nxV_in zs p1 (n := 3) (by decide) (by decide)
          have HRc : Hid (dsL zs B (rs ++ [(nx + nxV zs p1 3 - 1, 2 + nxV zs (nxS zs p1) (B - 2))]) (nx + nxV zs p1 3 + 1) (nxS zs (nxS zs p1)) m = R) := by
            have q := HR.out
            rw [dsL] at q
            exact q
          generalize nxV zs p1 3 = d3 at *
          have hqc : (fun w' : World => w'.cell? ⟨X, 2, none⟩ = some (.int .i64 nx)) wc := hDc.cells.2.2.1
          refine hK2 _ _ (fun _ => hqc) ?_
          clear hK2 K2
          try simp only [Act.put, List.setIfInBounds_toArray, List.set_cons_zero, List.set_cons_succ]
          have wn1 : IntKind.i64.wrap (nx + d3) = nx + d3 := IntWalk.i64_in _ ⟨by omega, by omega⟩
          refine wpAnyE_take (i := 4) 41 (.int .i64 (nx + d3)) (by kernel_rfl) rfl (by kernel_rfl) (by kernel_rfl) (by kernel_rfl) (fun _ _ _ h => h) rfl rfl hqc (fun w' hw => by have m0 : w'.cell? ⟨X, 2, none⟩ = some (.int .i64 nx) := hw; go_simp <;> first | omega | kernel_rfl | decide) ?_
          simp only [Act.put, List.setIfInBounds_toArray, List.set_cons_zero, List.set_cons_succ]
          refine wpAnyE_take (i := 5) 42 (.pointer (some ⟨X, 2, none⟩)) (by kernel_rfl) rfl (by kernel_rfl) (by kernel_rfl) (by kernel_rfl) (fun _ _ _ h => h) rfl rfl hqc (fun w' hw => by have m0 : w'.cell? ⟨X, 2, none⟩ = some (.int .i64 nx) := hw; go_simp <;> first | omega | kernel_rfl | decide) ?_
          simp only [Act.put, List.setIfInBounds_toArray, List.set_cons_zero, List.set_cons_succ]
          have y2c : wc.cell? ⟨X, 2, none⟩ = some (.int .i64 nx) := hqc
          have yfc : wc.frozen? ⟨X, 2, none⟩ = false := hDc.cells.2.2.2.2.2 2
          refine wpAnyE_one (i := 6) (by kernel_rfl) rfl rfl (fun K2 hK2 => ?_)
          go_simp
          refine hK2 _ _ (fun hne => absurd rfl hne) ?_
          clear hK2 K2
          refine wpAnyE_done (by kernel_rfl) ?_ _
          have hDd := hDc.set2 (nx + d3)
          have HDd : Hid _ := hDd
          clear u0 u1 u2 u3 u4 uf hq0 hqc y2c yfc hDc hsc hfc HD HR hDd
          generalize wc.setCell ⟨X, 2, none⟩ (.int .i64 (nx + d3)) = Wd at *
          obtain ⟨u0, u1, u2, u3, u4, uf⟩ := HDd.out.cells
          have wn2 : IntKind.i64.wrap (nx + d3 - 1) = nx + d3 - 1 := IntWalk.i64_in _ ⟨by omega, by omega⟩
          have wb2 : IntKind.i64.wrap (B - 2) = B - 2 := IntWalk.i64_in _ ⟨by omega, by omega⟩
          go_wp2_with fail
          refine wp_region_E (fun w' => w'.cell? ⟨X, 0, none⟩ = some (.int .i64 B) ∧ w'.cell? ⟨X, 2, none⟩ = some (.int .i64 (nx + d3)) ∧ w'.cell? ⟨X, 4, none⟩ = some (.slice va k vc)) 15 (by kernel_rfl) ?_
          have hq0 : (fun w' : World => w'.cell? ⟨X, 0, none⟩ = some (.int .i64 B) ∧ w'.cell? ⟨X, 2, none⟩ = some (.int .i64 (nx + d3)) ∧ w'.cell? ⟨X, 4, none⟩ = some (.slice va k vc)) Wd.drew := ⟨u0, u2, u4⟩
          refine wpAnyE_take (i := 0) 43 (.pointer (some ⟨X, 4, none⟩)) (by kernel_rfl) rfl (by kernel_rfl) (by kernel_rfl) (by kernel_rfl) (fun _ _ _ h => h) rfl rfl hq0 (fun w' hw => by obtain ⟨m0, m1, m2⟩ := hw; go_simp <;> first | omega | kernel_rfl | decide) ?_
          simp only [Act.put, List.setIfInBounds_toArray, List.set_cons_zero, List.set_cons_succ]
          refine wpAnyE_take (i := 1) 44 (.slice va k vc) (by kernel_rfl) rfl (by kernel_rfl) (by kernel_rfl) (by kernel_rfl) (fun _ _ _ h => h) rfl rfl hq0 (fun w' hw => by obtain ⟨m0, m1, m2⟩ := hw; go_simp <;> first | omega | kernel_rfl | decide) ?_
          simp only [Act.put, List.setIfInBounds_toArray, List.set_cons_zero, List.set_cons_succ]
          refine wpAnyE_take (i := 2) 45 (.pointer (some ⟨X, 2, none⟩)) (by kernel_rfl) rfl (by kernel_rfl) (by kernel_rfl) (by kernel_rfl) (fun _ _ _ h => h) rfl rfl hq0 (fun w' hw => by obtain ⟨m0, m1, m2⟩ := hw; go_simp <;> first | omega | kernel_rfl | decide) ?_
          simp only [Act.put, List.setIfInBounds_toArray, List.set_cons_zero, List.set_cons_succ]
          refine wpAnyE_take (i := 3) 46 (.int .i64 (nx + d3)) (by kernel_rfl) rfl (by kernel_rfl) (by kernel_rfl) (by kernel_rfl) (fun _ _ _ h => h) rfl rfl hq0 (fun w' hw => by obtain ⟨m0, m1, m2⟩ := hw; go_simp <;> first | omega | kernel_rfl | decide) ?_
          simp only [Act.put, List.setIfInBounds_toArray, List.set_cons_zero, List.set_cons_succ]
          refine wpAnyE_take (i := 4) 47 (.int .i64 (nx + d3 - 1)) (by kernel_rfl) rfl (by kernel_rfl) (by kernel_rfl) (by kernel_rfl) (fun _ _ _ h => h) rfl rfl hq0 (fun w' hw => by obtain ⟨m0, m1, m2⟩ := hw; go_simp <;> first | omega | kernel_rfl | decide) ?_
          simp only [Act.put, List.setIfInBounds_toArray, List.set_cons_zero, List.set_cons_succ]
          refine wpAnyE_take (i := 5) 48 (.pointer (some ⟨g, 0, none⟩)) (by kernel_rfl) rfl (by kernel_rfl) (by kernel_rfl) (by kernel_rfl) (fun _ _ _ h => h) rfl rfl hq0 (fun w' hw => by obtain ⟨m0, m1, m2⟩ := hw; go_simp <;> first | omega | kernel_rfl | decide) ?_
          simp only [Act.put, List.setIfInBounds_toArray, List.set_cons_zero, List.set_cons_succ]
          refine wpAnyE_take (i := 6) 49 (.pointer (some ⟨X, 0, none⟩)) (by kernel_rfl) rfl (by kernel_rfl) (by kernel_rfl) (by kernel_rfl) (fun _ _ _ h => h) rfl rfl hq0 (fun w' hw => by obtain ⟨m0, m1, m2⟩ := hw; go_simp <;> first | omega | kernel_rfl | decide) ?_
          simp only [Act.put, List.setIfInBounds_toArray, List.set_cons_zero, List.set_cons_succ]
          refine wpAnyE_take (i := 7) 50 (.int .i64 B) (by kernel_rfl) rfl (by kernel_rfl) (by kernel_rfl) (by kernel_rfl) (fun _ _ _ h => h) rfl rfl hq0 (fun w' hw => by obtain ⟨m0, m1, m2⟩ := hw; go_simp <;> first | omega | kernel_rfl | decide) ?_
          simp only [Act.put, List.setIfInBounds_toArray, List.set_cons_zero, List.set_cons_succ]
          refine wpAnyE_take (i := 8) 51 (.int .i64 (B - 2)) (by kernel_rfl) rfl (by kernel_rfl) (by kernel_rfl) (by kernel_rfl) (fun _ _ _ h => h) rfl rfl hq0 (fun w' hw => by obtain ⟨m0, m1, m2⟩ := hw; go_simp <;> first | omega | kernel_rfl | decide) ?_
          simp only [Act.put, List.setIfInBounds_toArray, List.set_cons_zero, List.set_cons_succ]
          have hv5 := nxV_in zs (nxS zs p1) (n := B - 2) (by omega) (by omega)
          refine wpAnyE_one (i := 9) (by kernel_rfl) rfl rfl (fun K2 hK2 => ?_)
          go_simp
          refine (l1Next_x base g a c zs (nxS zs p1) (B - 2) (by omega) (by omega) Wd.drew (HDd.out.src.heap rfl)).mono ?_
          rintro e we ⟨rfl, hse, hfe⟩
          have hDe := (HDd.out.call (W' := Wd.drew) (HDd.out.src.heap rfl) ((Frm.refl _ _).drew)).call hse hfe
          generalize nxV zs (nxS zs p1) (B - 2) = b5 at *
          have wb5 : IntKind.i64.wrap (2 + b5) = 2 + b5 := IntWalk.i64_in _ ⟨by omega, by omega⟩
          have hqe : (fun w' : World => w'.cell? ⟨X, 0, none⟩ = some (.int .i64 B) ∧ w'.cell? ⟨X, 2, none⟩ = some (.int .i64 (nx + d3)) ∧ w'.cell? ⟨X, 4, none⟩ = some (.slice va k vc)) we := ⟨hDe.cells.1, hDe.cells.2.2.1, hDe.cells.2.2.2.2.1⟩
          refine hK2 _ _ (fun _ => hqe) ?_
          clear hK2 K2
          try simp only [Act.put, List.setIfInBounds_toArray, List.set_cons_zero, List.set_cons_succ]
          refine wpAnyE_take (i := 10) 53 (.int .i64 (2 + b5)) (by kernel_rfl) rfl (by kernel_rfl) (by kernel_rfl) (by kernel_rfl) (fun _ _ _ h => h) rfl rfl hqe (fun w' hw => by obtain ⟨m0, m1, m2⟩ := hw; go_simp <;> first | omega | kernel_rfl | decide) ?_
          simp only [Act.put, List.setIfInBounds_toArray, List.set_cons_zero, List.set_cons_succ]
          refine wpAnyE_take (i := 11) 54 (.agg #[.int .i64 (nx + d3 - 1), .int .i64 (2 + b5)]) (by kernel_rfl) rfl (by kernel_rfl) (by kernel_rfl) (by kernel_rfl) (fun _ _ _ h => h) rfl rfl hqe (fun w' hw => by obtain ⟨m0, m1, m2⟩ := hw; go_simp <;> first | omega | kernel_rfl | decide) ?_
          simp only [Act.put, List.setIfInBounds_toArray, List.set_cons_zero, List.set_cons_succ]
          refine wpAnyE_one (i := 12) (by kernel_rfl) rfl rfl (fun K2 hK2 => ?_)
          go_simp
          obtain ⟨Wf, HWf⟩ : ∃ Wf, Hid (Wf = (we.alloc (.cells #[.int .i64 (nx + d3 - 1), .int .i64 (2 + b5)] 46))) := ⟨_, rfl⟩
          have hDf : Du w base g a c zs X B G (nx + d3) T (.slice va k vc) rs (nxS zs (nxS zs p1)) Wf := by rw [HWf.out]; exact hDe.below (belowA _ _)
          have hnw : Wf.heap[we.heap.size]? = some (.cells #[.int .i64 (nx + d3 - 1), .int .i64 (2 + b5)] 46 (0, 0)) := by rw [HWf.out]; exact heap_alloc_new _ _
          rw [← HWf.out]
          clear HWf
          have hqf : (fun w' : World => w'.cell? ⟨X, 0, none⟩ = some (.int .i64 B) ∧ w'.cell? ⟨X, 2, none⟩ = some (.int .i64 (nx + d3)) ∧ w'.cell? ⟨X, 4, none⟩ = some (.slice va k vc)) Wf := ⟨hDf.cells.1, hDf.cells.2.2.1, hDf.cells.2.2.2.2.1⟩
          refine hK2 _ _ (fun _ => hqf) ?_
          clear hK2 K2
          refine wpAnyE_one (i := 13) (by kernel_rfl) rfl rfl (fun K2 hK2 => ?_)
          have hlb : X + 1 ≤ Wf.heap.size := (Array.getElem?_eq_some_iff.1 hDf.box).1
          have hownf : Wf.ownsRow (X + 1) 46 2 (.slice va k vc) k (rs.flatMap flat2) := by have q := hDf.own; rw [hkk] at q; exact q
          refine wp_appendT _ _ 39 46 _ 2 16 Tryz.underlying39 infoRoot rfl (by decide) rfl (base := X + 1) hownf rfl ⟨we.heap.size, 0, none⟩ 1 1 rfl [.int .i64 (nx + d3 - 1), .int .i64 (2 + b5)] rfl ?_ (fun u hm => List.all_eq_true.1 (show ([.int .i64 (nx + d3 - 1), .int .i64 (2 + b5)] : List Value).all (·.oneCell') = true from rfl) u hm) (by omega) (by omega) hlb ?_
          · intro j u hj
            rw [Addr.add_mid, Nat.zero_add]
            simpa [World.cell?, hnw] using hj
          intro v' w8 hown8 hns8 hbl8
          obtain ⟨ya, yc, rfl, hyf⟩ := owns_form hown8
          have hown9 : w8.ownsRow (X + 1) 46 2 (.slice ya (k + 1) yc) (k + 1) ((rs ++ [(nx + d3 - 1, 2 + b5)]).flatMap flat2) := by rw [flat_snoc]; exact hown8
          have HOWN9 : Hid _ := hown9
          clear hown8 hown9
          show K2 (Act.put _ (some 56) _) w8
          have hX8 := hns8.cells hDf.box (by decide)
          have hr8 := hns8.cells hDf.res (by decide)
          have hXX := hDf.hX
          have hlo := hDf.src.lo
          have hf8 : Frm (fun b => X + 1 ≤ b) Wf w8 := ⟨hbl8.os, hbl8.tape, hbl8.output, hbl8.size, fun i _ hn => hbl8.block i (by omega)⟩
          have hs8 : SrcX base g a c zs (nxS zs (nxS zs p1)) w8 := hDf.src.frm hf8 (by omega) (fun b hb => by omega)
          have hq8 : (fun w' : World => w'.cell? ⟨X, 0, none⟩ = some (.int .i64 B) ∧ w'.cell? ⟨X, 2, none⟩ = some (.int .i64 (nx + d3)) ∧ w'.cell? ⟨X, 4, none⟩ = some (.slice va k vc)) w8 := ⟨(cell_of_row w8 X 0 _ _ _ hX8).trans rfl, (cell_of_row w8 X 2 _ _ _ hX8).trans rfl, (cell_of_row w8 X 4 _ _ _ hX8).trans rfl⟩
          refine hK2 _ _ (fun _ => hq8) ?_
          clear hK2 K2
          simp only [Act.put, List.setIfInBounds_toArray, List.set_cons_zero, List.set_cons_succ]
          refine wpAnyE_take (i := 14) 57 (.pointer (some ⟨X, 4, none⟩)) (by kernel_rfl) rfl (by kernel_rfl) (by kernel_rfl) (by kernel_rfl) (fun _ _ _ h => h) rfl rfl hq8 (fun w' hw => by obtain ⟨m0, m1, m2⟩ := hw; go_simp) ?_
          simp only [Act.put, List.setIfInBounds_toArray, List.set_cons_zero, List.set_cons_succ]
          have y4c : w8.cell? ⟨X, 4, none⟩ = some (.slice va k vc) := hq8.2.2
          have yfc : w8.frozen? ⟨X, 4, none⟩ = false := frozen_of_row w8 X _ _ _ hX8
          refine wpAnyE_one (i := 15) (by kernel_rfl) rfl rfl (fun K2 hK2 => ?_)
          go_simp
          refine hK2 _ _ (fun hne => absurd rfl hne) ?_
          clear hK2 K2
          refine wpAnyE_done (by kernel_rfl) ?_ _
          have hX9 : (w8.setCell ⟨X, 4, none⟩ (.slice ya (k + 1) yc)).heap[X]? = some (.cells #[.int .i64 B, .int .i64 G, .int .i64 (nx + d3), .int .i64 T, .slice ya (k + 1) yc] 41 (0, 0)) := by simpa using heap_setCell_same w8 X 4 _ _ (.slice ya (k + 1) yc) hX8
          have HD9 : Hid (Du w base g a c zs X B G (nx + d3) T (.slice ya (k + 1) yc) (rs ++ [(nx + d3 - 1, 2 + b5)]) (nxS zs (nxS zs p1)) (w8.setCell ⟨X, 4, none⟩ (.slice ya (k + 1) yc))) := by
            refine ⟨(Below.heap_setCell _ ⟨X, 4, none⟩ _ _ (by show w.heap.size ≠ X; omega)).trans hr8, hX9, ?_, hXX, hs8.frm (S := fun b => b = X) ⟨rfl, rfl, rfl, by simp [World.setCell], fun k _ hn => Below.heap_setCell _ _ _ _ hn⟩ (by show ¬ g = X; omega) (fun b hb => by omega), ?_, hgl⟩
            · rw [List.length_append, hkk]
              exact owns_set HOWN9.out _ (by show X < X + 1; omega) _
            · have hfw := hDf.frm
              refine ⟨hbl8.os.trans hfw.os, hbl8.tape.trans hfw.tape, hbl8.output.trans hfw.output, Nat.le_trans hfw.size (Nat.le_trans hbl8.size (by simp [World.setCell])), fun i hi hn => ?_⟩
              exact (Below.heap_setCell _ ⟨X, 4, none⟩ _ _ (by show i ≠ X; omega)).trans ((hbl8.block i (by omega)).trans (hfw.block i hi hn))
          clear u0 u1 u2 u3 u4 uf hq0 hqe hqf hq8 y4c yfc hDe hDf hnw hX8 hr8 hs8 hX9 HOWN9 HDd hse hfe hownf
          generalize w8.setCell ⟨X, 4, none⟩ (.slice ya (k + 1) yc) = Wg at *
          obtain ⟨u0, u1, u2, u3, u4, uf⟩ := HD9.out.cells
          have uf2 := uf 2
          have wn3 : IntKind.i64.wrap (nx + d3 + 1) = nx + d3 + 1 := IntWalk.i64_in _ ⟨by omega, by omega⟩
          have HDh : Hid _ := HD9.out.set2 (nx + d3 + 1)
          clear uf
          go_wp2
          go_roundw
          case rel => exact ⟨rs ++ [(nx + d3 - 1, 2 + b5)], _, nx + d3 + 1, _, m, by rw [List.length_append, hkk]; show k + 1 + m = 16; omega, by rw [List.length_append, hkk]; first | rfl | go_num, HRc.out, HDh.out, by rw [List.length_append, hkk]; exact ⟨by omega, by show nx + d3 + 1 ≤ 1 + 3 * ((k + 1 : Nat) : Int); omega⟩⟩
          case measure => simp [intOf]; omega
    · have h6b : (y6 == 0) = false := by simpa using h6
      rw [if_neg h6] at HN
      have hne : 1 + y4 = (n : Int) := HN.out.symm
      rw [hne] at w4e
      rw [hne]
      clear h6 HN
      go_wp2
      go_loopw [5] (fun i wr => ∃ (rs : List R2) (v : Value) (nx : Int) (p1 : Nat × Int) (m : Nat), rs.length + m = n ∧ i = .int .i64 rs.length ∧ dsL zs B rs nx p1 m = R ∧ Du w base g a c zs X B G nx T v rs p1 wr ∧ (1 ≤ nx ∧ nx ≤ 1 + 3 * rs.length)) (fun i _ => n - (intOf i).toNat)
      case atStart => exact ⟨[], _, 1, q4, n, by simp, rfl, HR0.out, HD9.out, by simp⟩
      case round =>
        obtain ⟨rs, v, nx, p1, m, hm, rfl, hR, hD, hnx⟩ := hrel
        clear HD9 HR0
        obtain ⟨k, hkk⟩ : ∃ k, rs.length = k := ⟨_, rfl⟩
        obtain ⟨va, vc, hva, hvf⟩ := owns_form hD.own
        rw [hkk] at hva hm hnx ⊢
        subst hva
        cases m with
        | zero =>
          have hki : ¬ (k : Int) < (n : Int) := by omega
          have hRe : R = (rs, nx, p1) := by rw [← hR]; rfl
          have HD : Hid _ := hD
          clear hR hD
          go_wp2_with fail
          refine (l1Next_x base g a c zs p1 8 (by decide) (by decide) _ HD.out.src).mono ?_
          rintro e wa ⟨rfl, hsa, hfa⟩
          have hDa := HD.out.call hsa hfa
          rw [hRe] at HX HS
          simp only at HX HS
          rw [HS.out] at hDa
          generalize nxV zs p1 8 = yy at *
          have HRE : Hid (R = (rs, nx, p1)) := hRe
          have HVF : Hid (Fsh (X + 1) va) := hvf
          clear HD hsa hfa hRe hvf
          by_cases hy : yy = 0
          · have hyb : (yy == 0) = true := by simpa using hy
            rw [if_pos hy] at HX
            have hNX : NX = 65535 := HX.out
            subst hNX
            obtain ⟨u0, u1, u2, u3, u4, uf⟩ := hDa.cells
            have uf2 := uf 2
            have HDa : Hid _ := hDa
            clear hy HX hDa uf
            go_upto_region 16 with fail
            have hDb := HDa.out.set2 65535
            clear u0 u1 u2 u3 u4 uf2 HDa
            generalize wa.setCell ⟨X, 2, none⟩ (.int .i64 65535) = Wb at *
            obtain ⟨u0, u1, u2, u3, u4, uf⟩ := hDb.cells
            have hres := hDb.res
            have hcy : Wb.cell? ⟨w.heap.size, 0, none⟩ = some (.int .i64 0) ∧ Wb.cell? ⟨w.heap.size, 1, none⟩ = some (.int .i64 0) ∧ Wb.cell? ⟨w.heap.size, 2, none⟩ = some (.int .i64 0) ∧ Wb.cell? ⟨w.heap.size, 3, none⟩ = some (.int .i64 0) ∧ Wb.cell? ⟨w.heap.size, 4, none⟩ = some (.slice none 0 0) := by simp [World.cell?, hres]
            obtain ⟨r0, r1, r2, r3, r4⟩ := hcy
            have hfy : ∀ i, Wb.frozen? ⟨w.heap.size, i, none⟩ = false := fun i => frozen_of_row Wb _ i _ _ hres
            have z0 := hfy 0
            have z1 := hfy 1
            have z2 := hfy 2
            have z3 := hfy 3
            have z4 := hfy 4
            have hlR : R.1.length = k := by rw [HRE.out]; exact hkk
            have hrd : TRead Wb (.slice va k vc) R.1 := by
              have q := hDb.own
              have q2 := owns_T (rs := rs) (a := va) (c := vc) (base := X + 1) (W := Wb) (by rw [hkk] at q ⊢; exact q)
              rw [hkk] at q2
              rw [HRE.out]
              exact q2
            have HEND : Hid (TRead (((((Wb.setCell ⟨w.heap.size, 0, none⟩ (.int .i64 B)).setCell ⟨w.heap.size, 1, none⟩ (.int .i64 G)).setCell ⟨w.heap.size, 2, none⟩ (.int .i64 65535)).setCell ⟨w.heap.size, 3, none⟩ (.int .i64 T)).setCell ⟨w.heap.size, 4, none⟩ (.slice va k vc)) (.slice va k vc) R.1 ∧ SrcX base g a c zs pE (((((Wb.setCell ⟨w.heap.size, 0, none⟩ (.int .i64 B)).setCell ⟨w.heap.size, 1, none⟩ (.int .i64 G)).setCell ⟨w.heap.size, 2, none⟩ (.int .i64 65535)).setCell ⟨w.heap.size, 3, none⟩ (.int .i64 T)).setCell ⟨w.heap.size, 4, none⟩ (.slice va k vc)) ∧ Frm (· = g) w (((((Wb.setCell ⟨w.heap.size, 0, none⟩ (.int .i64 B)).setCell ⟨w.heap.size, 1, none⟩ (.int .i64 G)).setCell ⟨w.heap.size, 2, none⟩ (.int .i64 65535)).setCell ⟨w.heap.size, 3, none⟩ (.int .i64 T)).setCell ⟨w.heap.size, 4, none⟩ (.slice va k vc))) := by
              have hu : Upd w.heap.size (w.heap.size + 1) Wb (((((Wb.setCell ⟨w.heap.size, 0, none⟩ (.int .i64 B)).setCell ⟨w.heap.size, 1, none⟩ (.int .i64 G)).setCell ⟨w.heap.size, 2, none⟩ (.int .i64 65535)).setCell ⟨w.heap.size, 3, none⟩ (.int .i64 T)).setCell ⟨w.heap.size, 4, none⟩ (.slice va k vc)) := (((((Upd.refl _ _ _).setCell (p := ⟨w.heap.size, 0, none⟩) (Nat.le_refl _) (Nat.lt_succ_self _) _).setCell (p := ⟨w.heap.size, 1, none⟩) (Nat.le_refl _) (Nat.lt_succ_self _) _).setCell (p := ⟨w.heap.size, 2, none⟩) (Nat.le_refl _) (Nat.lt_succ_self _) _).setCell (p := ⟨w.heap.size, 3, none⟩) (Nat.le_refl _) (Nat.lt_succ_self _) _).setCell (p := ⟨w.heap.size, 4, none⟩) (Nat.le_refl _) (Nat.lt_succ_self _) _
              have hfu : Frm (fun b => b = w.heap.size) Wb (((((Wb.setCell ⟨w.heap.size, 0, none⟩ (.int .i64 B)).setCell ⟨w.heap.size, 1, none⟩ (.int .i64 G)).setCell ⟨w.heap.size, 2, none⟩ (.int .i64 65535)).setCell ⟨w.heap.size, 3, none⟩ (.int .i64 T)).setCell ⟨w.heap.size, 4, none⟩ (.slice va k vc)) := ⟨hu.os, hu.tape, hu.output, hu.size, fun i hi hn => hu.block i hi (by omega)⟩
              have hlo := hDb.src.lo
              have hXX := hDb.hX
              have hFF := hDb.frm
              refine ⟨hrd.upd (fun q hq => by have := HVF.out q hq; omega) hu, hDb.src.frm hfu (by show ¬ g = w.heap.size; omega) (fun b hb => by omega), ?_⟩
              exact ⟨hu.os.trans hFF.os, hu.tape.trans hFF.tape, hu.output.trans hFF.output, Nat.le_trans hFF.size hu.size, fun i hi hn => (hu.block i (by have := hFF.size; omega) (.inl hi)).trans (hFF.block i hi hn)⟩
            have HLR : Hid (R.1.length = k) := hlR
            clear hres hfy hlR hrd hDb uf
            go_wp2
            exact bodyPost_ret (v := .agg #[.int .i64 B, .int .i64 G, .int .i64 65535, .int .i64 T, .slice va k vc]) (by simp [results, Tryz.results36, go_sem, r0, r1, r2, r3, r4]) rfl ⟨⟨va, vc, by rw [HLR.out], by rw [HLR.out]; exact HEND.out.1⟩, HEND.out.2⟩
          · have hyb : (yy == 0) = false := by simpa using hy
            rw [if_neg hy] at HX
            have hNX : NX = nx := HX.out
            subst hNX
            have hDb := hDa
            clear hy HX hDa
            generalize wa = Wb at *
            obtain ⟨u0, u1, u2, u3, u4, uf⟩ := hDb.cells
            have hres := hDb.res
            have hcy : Wb.cell? ⟨w.heap.size, 0, none⟩ = some (.int .i64 0) ∧ Wb.cell? ⟨w.heap.size, 1, none⟩ = some (.int .i64 0) ∧ Wb.cell? ⟨w.heap.size, 2, none⟩ = some (.int .i64 0) ∧ Wb.cell? ⟨w.heap.size, 3, none⟩ = some (.int .i64 0) ∧ Wb.cell? ⟨w.heap.size, 4, none⟩ = some (.slice none 0 0) := by simp [World.cell?, hres]
            obtain ⟨r0, r1, r2, r3, r4⟩ := hcy
            have hfy : ∀ i, Wb.frozen? ⟨w.heap.size, i, none⟩ = false := fun i => frozen_of_row Wb _ i _ _ hres
            have z0 := hfy 0
            have z1 := hfy 1
            have z2 := hfy 2
            have z3 := hfy 3
            have z4 := hfy 4
            have hlR : R.1.length = k := by rw [HRE.out]; exact hkk
            have hrd : TRead Wb (.slice va k vc) R.1 := by
              have q := hDb.own
              have q2 := owns_T (rs := rs) (a := va) (c := vc) (base := X + 1) (W := Wb) (by rw [hkk] at q ⊢; exact q)
              rw [hkk] at q2
              rw [HRE.out]
              exact q2
            have HEND : Hid (TRead (((((Wb.setCell ⟨w.heap.size, 0, none⟩ (.int .i64 B)).setCell ⟨w.heap.size, 1, none⟩ (.int .i64 G)).setCell ⟨w.heap.size, 2, none⟩ (.int .i64 NX)).setCell ⟨w.heap.size, 3, none⟩ (.int .i64 T)).setCell ⟨w.heap.size, 4, none⟩ (.slice va k vc)) (.slice va k vc) R.1 ∧ SrcX base g a c zs pE (((((Wb.setCell ⟨w.heap.size, 0, none⟩ (.int .i64 B)).setCell ⟨w.heap.size, 1, none⟩ (.int .i64 G)).setCell ⟨w.heap.size, 2, none⟩ (.int .i64 NX)).setCell ⟨w.heap.size, 3, none⟩ (.int .i64 T)).setCell ⟨w.heap.size, 4, none⟩ (.slice va k vc)) ∧ Frm (· = g) w (((((Wb.setCell ⟨w.heap.size, 0, none⟩ (.int .i64 B)).setCell ⟨w.heap.size, 1, none⟩ (.int .i64 G)).setCell ⟨w.heap.size, 2, none⟩ (.int .i64 NX)).setCell ⟨w.heap.size, 3, none⟩ (.int .i64 T)).setCell ⟨w.heap.size, 4, none⟩ (.slice va k vc))) := by
              have hu : Upd w.heap.size (w.heap.size + 1) Wb (((((Wb.setCell ⟨w.heap.size, 0, none⟩ (.int .i64 B)).setCell ⟨w.heap.size, 1, none⟩ (.int .i64 G)).setCell ⟨w.heap.size, 2, none⟩ (.int .i64 NX)).setCell ⟨w.heap.size, 3, none⟩ (.int .i64 T)).setCell ⟨w.heap.size, 4, none⟩ (.slice va k vc)) := (((((Upd.refl _ _ _).setCell (p := ⟨w.heap.size, 0, none⟩) (Nat.le_refl _) (Nat.lt_succ_self _) _).setCell (p := ⟨w.heap.size, 1, none⟩) (Nat.le_refl _) (Nat.lt_succ_self _) _).setCell (p := ⟨w.heap.size, 2, none⟩) (Nat.le_refl _) (Nat.lt_succ_self _) _).setCell (p := ⟨w.heap.size, 3, none⟩) (Nat.le_refl _) (Nat.lt_succ_self _) _).setCell (p := ⟨w.heap.size, 4, none⟩) (Nat.le_refl _) (Nat.lt_succ_self _) _
              have hfu : Frm (fun b => b = w.heap.size) Wb (((((Wb.setCell ⟨w.heap.size, 0, none⟩ (.int .i64 B)).setCell ⟨w.heap.size, 1, none⟩ (.int .i64 G)).setCell ⟨w.heap.size, 2, none⟩ (.int .i64 NX)).setCell ⟨w.heap.size, 3, none⟩ (.int .i64 T)).setCell ⟨w.heap.size, 4, none⟩ (.slice va k vc)) := ⟨hu.os, hu.tape, hu.output, hu.size, fun i hi hn => hu.block i hi (by omega)⟩
              have hlo := hDb.src.lo
              have hXX := hDb.hX
              have hFF := hDb.frm
              refine ⟨hrd.upd (fun q hq => by have := HVF.out q hq; omega) hu, hDb.src.frm hfu (by show ¬ g = w.heap.size; omega) (fun b hb => by omega), ?_⟩
              exact ⟨hu.os.trans hFF.os, hu.tape.trans hFF.tape, hu.output.trans hFF.output, Nat.le_trans hFF.size hu.size, fun i hi hn => (hu.block i (by have := hFF.size; omega) (.inl hi)).trans (hFF.block i hi hn)⟩
            have HLR : Hid (R.1.length = k) := hlR
            clear hres hfy hlR hrd hDb uf
            go_wp2
            exact bodyPost_ret (v := .agg #[.int .i64 B, .int .i64 G, .int .i64 NX, .int .i64 T, .slice va k vc]) (by simp [results, Tryz.results36, go_sem, r0, r1, r2, r3, r4]) rfl ⟨⟨va, vc, by rw [HLR.out], by rw [HLR.out]; exact HEND.out.1⟩, HEND.out.2⟩
        | succ m =>
          have hki : (k : Int) < (n : Int) := by omega
          have HR : Hid (dsL zs B rs nx p1 (m + 1) = R) := hR
          clear hR
          obtain ⟨u0, u1, u2, u3, u4, uf⟩ := hD.cells
          have HD : Hid _ := hD
          clear hD
          go_wp2_with fail
          refine wp_region_E (fun w' => w'.cell? ⟨X, 2, none⟩ = some (.int .i64 nx)) 6 (by kernel_rfl) ?_
          have hq0 : (fun w' : World => w'.cell? ⟨X, 2, none⟩ = some (.int .i64 nx)) wr.drew := u2
          refine wpAnyE_take (i := 0) 37 (.pointer (some ⟨X, 2, none⟩)) (by kernel_rfl) rfl (by kernel_rfl) (by kernel_rfl) (by kernel_rfl) (fun _ _ _ h => h) rfl rfl hq0 (fun w' hw => by have m0 : w'.cell? ⟨X, 2, none⟩ = some (.int .i64 nx) := hw; go_simp <;> first | omega | kernel_rfl | decide) ?_
          simp only [Act.put, List.setIfInBounds_toArray, List.set_cons_zero, List.set_cons_succ]
          refine wpAnyE_take (i := 1) 38 (.int .i64 nx) (by kernel_rfl) rfl (by kernel_rfl) (by kernel_rfl) (by kernel_rfl) (fun _ _ _ h => h) rfl rfl hq0 (fun w' hw => by have m0 : w'.cell? ⟨X, 2, none⟩ = some (.int .i64 nx) := hw; go_simp <;> first | omega | kernel_rfl | decide) ?_
          simp only [Act.put, List.setIfInBounds_toArray, List.set_cons_zero, List.set_cons_succ]
          refine wpAnyE_take (i := 2) 39 (.pointer (some ⟨g, 0, none⟩)) (by kernel_rfl) rfl (by kernel_rfl) (by kernel_rfl) (by kernel_rfl) (fun _ _ _ h => h) rfl rfl hq0 (fun w' hw => by have m0 : w'.cell? ⟨X, 2, none⟩ = some (.int .i64 nx) := hw; go_simp <;> first | omega | kernel_rfl | decide) ?_
          simp only [Act.put, List.setIfInBounds_toArray, List.set_cons_zero, List.set_cons_succ]
          refine wpAnyE_one (i := 3) (by kernel_rfl) rfl rfl (fun K2 hK2 => ?_)
          go_simp
          refine (l1Next_x base g a c zs p1 3 (by decide) (by decide) wr.drew (HD.out.src.heap rfl)).mono ?_
          rintro e wc ⟨rfl, hsc, hfc⟩
          have hDc := (HD.out.call (W' := wr.drew) (HD.out.src.heap rfl) ((Frm.refl _ _).drew)).call hsc hfc
          have hv3c := nxV_in zs p1 (n := 3) (by decide) (by decide)
          have HRc : Hid (dsL zs B (rs ++ [(nx + nxV zs p1 3 - 1, 2 + nxV zs (nxS zs p1) (B - 2))]) (nx + nxV zs p1 3 + 1) (nxS zs (nxS zs p1)) m = R) := by
            have q := HR.out
            rw [dsL] at q
            exact q
          generalize nxV zs p1 3 = d3 at *
          have hqc : (fun w' : World => w'.cell? ⟨X, 2, none⟩ = some (.int .i64 nx)) wc := hDc.cells.2.2.1
          refine hK2 _ _ (fun _ => hqc) ?_
          clear hK2 K2
          try simp only [Act.put, List.setIfInBounds_toArray, List.set_cons_zero, List.set_cons_succ]
          have wn1 : IntKind.i64.wrap (nx + d3) = nx + d3 := IntWalk.i64_in _ ⟨by omega, by omega⟩
          refine wpAnyE_take (i := 4) 41 (.int .i64 (nx + d3)) (by kernel_rfl) rfl (by kernel_rfl) (by kernel_rfl) (by kernel_rfl) (fun _ _ _ h => h) rfl rfl hqc (fun w' hw => by have m0 : w'.cell? ⟨X, 2, none⟩ = some (.int .i64 nx) := hw; go_simp <;> first | omega | kernel_rfl | decide) ?_
          simp only [Act.put, List.setIfInBounds_toArray, List.set_cons_zero, List.set_cons_succ]
          refine wpAnyE_take (i := 5) 42 (.pointer (some ⟨X, 2, none⟩)) (by kernel_rfl) rfl (by kernel_rfl) (by kernel_rfl) (by kernel_rfl) (fun _ _ _ h => h) rfl rfl hqc (fun w' hw => by have m0 : w'.cell? ⟨X, 2, none⟩ = some (.int .i64 nx) := hw; go_simp <;> first | omega | kernel_rfl | decide) ?_
          simp only [Act.put, List.setIfInBounds_toArray, List.set_cons_zero, List.set_cons_succ]
          have y2c : wc.cell? ⟨X, 2, none⟩ = some (.int .i64 nx) := hqc
          have yfc : wc.frozen? ⟨X, 2, none⟩ = false := hDc.cells.2.2.2.2.2 2
          refine wpAnyE_one (i := 6) (by kernel_rfl) rfl rfl (fun K2 hK2 => ?_)
          go_simp
          refine hK2 _ _ (fun hne => absurd rfl hne) ?_
          clear hK2 K2
          refine wpAnyE_done (by kernel_rfl) ?_ _
          have hDd := hDc.set2 (nx + d3)
          have HDd : Hid _ := hDd
          clear u0 u1 u2 u3 u4 uf hq0 hqc y2c yfc hDc hsc hfc HD HR hDd
          generalize wc.setCell ⟨X, 2, none⟩ (.int .i64 (nx + d3)) = Wd at *
          obtain ⟨u0, u1, u2, u3, u4, uf⟩ := HDd.out.cells
          have wn2 : IntKind.i64.wrap (nx + d3 - 1) = nx + d3 - 1 := IntWalk.i64_in _ ⟨by omega, by omega⟩
          have wb2 : IntKind.i64.wrap (B - 2) = B - 2 := IntWalk.i64_in _ ⟨by omega, by omega⟩
          go_wp2_with fail
          refine wp_region_E (fun w' => w'.cell? ⟨X, 0, none⟩ = some (.int .i64 B) ∧ w'.cell? ⟨X, 2, none⟩ = some (.int .i64 (nx + d3)) ∧ w'.cell? ⟨X, 4, none⟩ = some (.slice va k vc)) 15 (by kernel_rfl) ?_
          have hq0 : (fun w' : World => w'.cell? ⟨X, 0, none⟩ = some (.int .i64 B) ∧ w'.cell? ⟨X, 2, none⟩ = some (.int .i64 (nx + d3)) ∧ w'.cell? ⟨X, 4, none⟩ = some (.slice va k vc)) Wd.drew := ⟨u0, u2, u4⟩
          refine wpAnyE_take (i := 0) 43 (.pointer (some ⟨X, 4, none⟩)) (by kernel_rfl) rfl (by kernel_rfl) (by kernel_rfl) (by kernel_rfl) (fun _ _ _ h => h) rfl rfl hq0 (fun w' hw => by obtain ⟨m0, m1, m2⟩ := hw; go_simp <;> first | omega | kernel_rfl | decide) ?_
          simp only [Act.put, List.setIfInBounds_toArray, List.set_cons_zero, List.set_cons_succ]
          refine wpAnyE_take (i := 1) 44 (.slice va k vc) (by kernel_rfl) rfl (by kernel_rfl) (by kernel_rfl) (by kernel_rfl) (fun _ _ _ h => h) rfl rfl hq0 (fun w' hw => by obtain ⟨m0, m1, m2⟩ := hw; go_simp <;> first | omega | kernel_rfl | decide) ?_
          simp only [Act.put, List.setIfInBounds_toArray, List.set_cons_zero, List.set_cons_succ]
          refine wpAnyE_take (i := 2) 45 (.pointer (some ⟨X, 2, none⟩)) (by kernel_rfl) rfl (by kernel_rfl) (by kernel_rfl) (by kernel_rfl) (fun _ _ _ h => h) rfl rfl hq0 (fun w' hw => by obtain ⟨m0, m1, m2⟩ := hw; go_simp <;> first | omega | kernel_rfl | decide) ?_
          simp only [Act.put, List.setIfInBounds_toArray, List.set_cons_zero, List.set_cons_succ]
          refine wpAnyE_take (i := 3) 46 (.int .i64 (nx + d3)) (by kernel_rfl) rfl (by kernel_rfl) (by kernel_rfl) (by kernel_rfl) (fun _ _ _ h => h) rfl rfl hq0 (fun w' hw => by obtain ⟨m0, m1, m2⟩ := hw; go_simp <;> first | omega | kernel_rfl | decide) ?_
          simp only [Act.put, List.setIfInBounds_toArray, List.set_cons_zero, List.set_cons_succ]
          refine wpAnyE_take (i := 4) 47 (.int .i64 (nx + d3 - 1)) (by kernel_rfl) rfl (by kernel_rfl) (by kernel_rfl) (by kernel_rfl) (fun _ _ _ h => h) rfl rfl hq0 (fun w' hw => by obtain ⟨m0, m1, m2⟩ := hw; go_simp <;> first | omega | kernel_rfl | decide) ?_
          simp only [Act.put, List.setIfInBounds_toArray, List.set_cons_zero, List.set_cons_succ]
          refine wpAnyE_take (i := 5) 48 (.pointer (some ⟨g, 0, none⟩)) (by kernel_rfl) rfl (by kernel_rfl) (by kernel_rfl) (by kernel_rfl) (fun _ _ _ h => h) rfl rfl hq0 (fun w' hw => by obtain ⟨m0, m1, m2⟩ := hw; go_simp <;> first | omega | kernel_rfl | decide) ?_
          simp only [Act.put, List.setIfInBounds_toArray, List.set_cons_zero, List.set_cons_succ]
          refine wpAnyE_take (i := 6) 49 (.pointer (some ⟨X, 0, none⟩)) (by kernel_rfl) rfl (by kernel_rfl) (by kernel_rfl) (by kernel_rfl) (fun _ _ _ h => h) rfl rfl hq0 (fun w' hw => by obtain ⟨m0, m1, m2⟩ := hw; go_simp <;> first | omega | kernel_rfl | decide) ?_
          simp only [Act.put, List.setIfInBounds_toArray, List.set_cons_zero, List.set_cons_succ]
          refine wpAnyE_take (i := 7) 50 (.int .i64 B) (by kernel_rfl) rfl (by kernel_rfl) (by kernel_rfl) (by kernel_rfl) (fun _ _ _ h => h) rfl rfl hq0 (fun w' hw => by obtain ⟨m0, m1, m2⟩ := hw; go_simp <;> first | omega | kernel_rfl | decide) ?_
          simp only [Act.put, List.setIfInBounds_toArray, List.set_cons_zero, List.set_cons_succ]
          refine wpAnyE_take (i := 8) 51 (.int .i64 (B - 2)) (by kernel_rfl) rfl (by kernel_rfl) (by kernel_rfl) (by kernel_rfl) (fun _ _ _ h => h) rfl rfl hq0 (fun w' hw => by obtain ⟨m0, m1, m2⟩ := hw; go_simp <;> first | omega | kernel_rfl | decide) ?_
          simp only [Act.put, List.setIfInBounds_toArray, List.set_cons_zero, List.set_cons_succ]
          have hv5 := nxV_in zs (nxS zs p1) (n := B - 2) (by omega) (by omega)
          refine wpAnyE_one (i := 9) (by kernel_rfl) rfl rfl (fun K2 hK2 => ?_)
          go_simp
          refine (l1Next_x base g a c zs (nxS zs p1) (B - 2) (by omega) (by omega) Wd.drew (HDd.out.src.heap rfl)).mono ?_
          rintro e we ⟨rfl, hse, hfe⟩
          have hDe := (HDd.out.call (W' := Wd.drew) (HDd.out.src.heap rfl) ((Frm.refl _ _).drew)).call hse hfe
          generalize nxV zs (nxS zs p1) (B - 2) = b5 at *
          have wb5 : IntKind.i64.wrap (2 + b5) = 2 + b5 := IntWalk.i64_in _ ⟨by omega, by omega⟩
          have hqe : (fun w' : World => w'.cell? ⟨X, 0, none⟩ = some (.int .i64 B) ∧ w'.cell? ⟨X, 2, none⟩ = some (.int .i64 (nx + d3)) ∧ w'.cell? ⟨X, 4, none⟩ = some (.slice va k vc)) we := ⟨hDe.cells.1, hDe.cells.2.2.1, hDe.cells.2.2.2.2.1⟩
          refine hK2 _ _ (fun _ => hqe) ?_
          clear hK2 K2
          try simp only [Act.put, List.setIfInBounds_toArray, List.set_cons_zero, List.set_cons_succ]
          refine wpAnyE_take (i := 10) 53 (.int .i64 (2 + b5)) (by kernel_rfl) rfl (by kernel_rfl) (by kernel_rfl) (by kernel_rfl) (fun _ _ _ h => h) rfl rfl hqe (fun w' hw => by obtain ⟨m0, m1, m2⟩ := hw; go_simp <;> first | omega | kernel_rfl | decide) ?_
          simp only [Act.put, List.setIfInBounds_toArray, List.set_cons_zero, List.set_cons_succ]
          refine wpAnyE_take (i := 11) 54 (.agg #[.int .i64 (nx + d3 - 1), .int .i64 (2 + b5)]) (by kernel_rfl) rfl (by kernel_rfl) (by kernel_rfl) (by kernel_rfl) (fun _ _ _ h => h) rfl rfl hqe (fun w' hw => by obtain ⟨m0, m1, m2⟩ := hw; go_simp <;> first | omega | kernel_rfl | decide) ?_
          simp only [Act.put, List.setIfInBounds_toArray, List.set_cons_zero, List.set_cons_succ]
          refine wpAnyE_one (i := 12) (by kernel_rfl) rfl rfl (fun K2 hK2 => ?_)
          go_simp
          obtain ⟨Wf, HWf⟩ : ∃ Wf, Hid (Wf = (we.alloc (.cells #[.int .i64 (nx + d3 - 1), .int .i64 (2 + b5)] 46))) := ⟨_, rfl⟩
          have hDf : Du w base g a c zs X B G (nx + d3) T (.slice va k vc) rs (nxS zs (nxS zs p1)) Wf := by rw [HWf.out]; exact hDe.below (belowA _ _)
          have hnw : Wf.heap[we.heap.size]? = some (.cells #[.int .i64 (nx + d3 - 1), .int .i64 (2 + b5)] 46 (0, 0)) := by rw [HWf.out]; exact heap_alloc_new _ _
          rw [← HWf.out]
          clear HWf
          have hqf : (fun w' : World => w'.cell? ⟨X, 0, none⟩ = some (.int .i64 B) ∧ w'.cell? ⟨X, 2, none⟩ = some (.int .i64 (nx + d3)) ∧ w'.cell? ⟨X, 4, none⟩ = some (.slice va k vc)) Wf := ⟨hDf.cells.1, hDf.cells.2.2.1, hDf.cells.2.2.2.2.1⟩
          refine hK2 _ _ (fun _ => hqf) ?_
          clear hK2 K2
          refine wpAnyE_one (i := 13) (by kernel_rfl) rfl rfl (fun K2 hK2 => ?_)
          have hlb : X + 1 ≤ Wf.heap.size := (Array.getElem?_eq_some_iff.1 hDf.box).1
          have hownf : Wf.ownsRow (X + 1) 46 2 (.slice va k vc) k (rs.flatMap flat2) := by have q := hDf.own; rw [hkk] at q; exact q
          refine wp_appendT _ _ 39 46 _ 2 16 Tryz.underlying39 infoRoot rfl (by decide) rfl (base := X + 1) hownf rfl ⟨we.heap.size, 0, none⟩ 1 1 rfl [.int .i64 (nx + d3 - 1), .int .i64 (2 + b5)] rfl ?_ (fun u hm => List.all_eq_true.1 (show ([.int .i64 (nx + d3 - 1), .int .i64 (2 + b5)] : List Value).all (·.oneCell') = true from rfl) u hm) (by omega) (by omega) hlb ?_
          · intro j u hj
            rw [Addr.add_mid, Nat.zero_add]
            simpa [World.cell?, hnw] using hj
          intro v' w8 hown8 hns8 hbl8
          obtain ⟨ya, yc, rfl, hyf⟩ := owns_form hown8
          have hown9 : w8.ownsRow (X + 1) 46 2 (.slice ya (k + 1) yc) (k + 1) ((rs ++ [(nx + d3 - 1, 2 + b5)]).flatMap flat2) := by rw [flat_snoc]; exact hown8
          have HOWN9 : Hid _ := hown9
          clear hown8 hown9
          show K2 (Act.put _ (some 56) _) w8
          have hX8 := hns8.cells hDf.box (by decide)
          have hr8 := hns8.cells hDf.res (by decide)
          have hXX := hDf.hX
          have hlo := hDf.src.lo
          have hf8 : Frm (fun b => X + 1 ≤ b) Wf w8 := ⟨hbl8.os, hbl8.tape, hbl8.output, hbl8.size, fun i _ hn => hbl8.block i (by omega)⟩
          have hs8 : SrcX base g a c zs (nxS zs (nxS zs p1)) w8 := hDf.src.frm hf8 (by omega) (fun b hb => by omega)
          have hq8 : (fun w' : World => w'.cell? ⟨X, 0, none⟩ = some (.int .i64 B) ∧ w'.cell? ⟨X, 2, none⟩ = some (.int .i64 (nx + d3)) ∧ w'.cell? ⟨X, 4, none⟩ = some (.slice va k vc)) w8 := ⟨(cell_of_row w8 X 0 _ _ _ hX8).trans rfl, (cell_of_row w8 X 2 _ _ _ hX8).trans rfl, (cell_of_row w8 X 4 _ _ _ hX8).trans rfl⟩
          refine hK2 _ _ (fun _ => hq8) ?_
          clear hK2 K2
          simp only [Act.put, List.setIfInBounds_toArray, List.set_cons_zero, List.set_cons_succ]
          refine wpAnyE_take (i := 14) 57 (.pointer (some ⟨X, 4, none⟩)) (by kernel_rfl) rfl (by kernel_rfl) (by kernel_rfl) (by kernel_rfl) (fun _ _ _ h => h) rfl rfl hq8 (fun w' hw => by obtain ⟨m0, m1, m2⟩ := hw; go_simp) ?_
          simp only [Act.put, List.setIfInBounds_toArray, List.set_cons_zero, List.set_cons_succ]
          have y4c : w8.cell? ⟨X, 4, none⟩ = some (.slice va k vc) := hq8.2.2
          have yfc : w8.frozen? ⟨X, 4, none⟩ = false := frozen_of_row w8 X _ _ _ hX8
          refine wpAnyE_one (i := 15) (by kernel_rfl) rfl rfl (fun K2 hK2 => ?_)
          go_simp
          refine hK2 _ _ (fun hne => absurd rfl hne) ?_
          clear hK2 K2
          refine wpAnyE_done (by kernel_rfl) ?_ _
          have hX9 : (w8.setCell ⟨X, 4, none⟩ (.slice ya (k + 1) yc)).heap[X]? = some (.cells #[.int .i64 B, .int .i64 G, .int .i64 (nx + d3), .int .i64 T, .slice ya (k + 1) yc] 41 (0, 0)) := by simpa using heap_setCell_same w8 X 4 _ _ (.slice ya (k + 1) yc) hX8
          have HD9 : Hid (Du w base g a c zs X B G (nx + d3) T (.slice ya (k + 1) yc) (rs ++ [(nx + d3 - 1, 2 + b5)]) (nxS zs (nxS zs p1)) (w8.setCell ⟨X, 4, none⟩ (.slice ya (k + 1) yc))) := by
            refine ⟨(Below.heap_setCell _ ⟨X, 4, none⟩ _ _ (by show w.heap.size ≠ X; omega)).trans hr8, hX9, ?_, hXX, hs8.frm (S := fun b => b = X) ⟨rfl, rfl, rfl, by simp [World.setCell], fun k _ hn => Below.heap_setCell _ _ _ _ hn⟩ (by show ¬ g = X; omega) (fun b hb => by omega), ?_, hgl⟩
            · rw [List.length_append, hkk]
              exact owns_set HOWN9.out _ (by show X < X + 1; omega) _
            · have hfw := hDf.frm
              refine ⟨hbl8.os.trans hfw.os, hbl8.tape.trans hfw.tape, hbl8.output.trans hfw.output, Nat.le_trans hfw.size (Nat.le_trans hbl8.size (by simp [World.setCell])), fun i hi hn => ?_⟩
              exact (Below.heap_setCell _ ⟨X, 4, none⟩ _ _ (by show i ≠ X; omega)).trans ((hbl8.block i (by omega)).trans (hfw.block i hi hn))
          clear u0 u1 u2 u3 u4 uf hq0 hqe hqf hq8 y4c yfc hDe hDf hnw hX8 hr8 hs8 hX9 HOWN9 HDd hse hfe hownf
          generalize w8.setCell ⟨X, 4, none⟩ (.slice ya (k + 1) yc) = Wg at *
          obtain ⟨u0, u1, u2, u3, u4, uf⟩ := HD9.out.cells
          have uf2 := uf 2
          have wn3 : IntKind.i64.wrap (nx + d3 + 1) = nx + d3 + 1 := IntWalk.i64_in _ ⟨by omega, by omega⟩
          have HDh : Hid _ := HD9.out.set2 (nx + d3 + 1)
          clear uf
          go_wp2
          go_roundw
          case rel => exact ⟨rs ++ [(nx + d3 - 1, 2 + b5)], _, nx + d3 + 1, _, m, by rw [List.length_append, hkk]; show k + 1 + m = n; omega, by rw [List.length_append, hkk]; first | rfl | go_num, HRc.out, HDh.out, by rw [List.length_append, hkk]; exact ⟨by omega, by show nx + d3 + 1 ≤ 1 + 3 * ((k + 1 : Nat) : Int); omega⟩⟩
          case measure => simp [intOf]; omega
  · have h8b : (y8 == 0) = false := by simpa using h8
    rw [if_neg h8] at HG H2
    have hG1 : 1 + y3 = G := HG.out.symm
    have hD5 := hD4
    rw [hG1, ← H2.out] at hD5
    rw [hG1]
    clear h8 hD4 HG H2 hG1 wg
    go_upto_region 4 with fail
    generalize w4 = W5 at *
    obtain ⟨u0, u1, u2, u3, u4, uf⟩ := hD5.cells
    have uf3 := uf 3
    have wb : IntKind.i64.wrap (B - 2) = B - 2 := IntWalk.i64_in _ ⟨by omega, by omega⟩
    have HD5 : Hid _ := hD5
    clear hD5 uf
    go_wp2_with fail
    refine (l1Next_x base g a c zs q2 (B - 2) (by omega) (by omega) _ HD5.out.src).mono ?_
    rintro e w6 ⟨rfl, hs6, hf6⟩
    have hD6 := HD5.out.call hs6 hf6
    rw [H3.out] at hD6
    generalize nxV zs q2 (B - 2) = yT at *
    have wT : IntKind.i64.wrap (2 + yT) = T := by rw [HT.out]; exact IntWalk.i64_in _ ⟨by omega, by omega⟩
    have HD6 : Hid _ := hD6
    clear u0 u1 u2 u3 u4 uf3 HD5 hs6 hf6 hD6 HT H3
    obtain ⟨u0, u1, u2, u3, u4, uf⟩ := HD6.out.cells
    have uf3 := uf 3
    clear uf
    go_upto_region 5 with fail
    have hD7 := HD6.out.set3 T
    clear u0 u1 u2 u3 u4 uf3 HD6 wT
    generalize w6.setCell ⟨X, 3, none⟩ (.int .i64 T) = W7 at *
    have hv4 := nxV_in zs q3 (n := 4) (by decide) (by decide)
    go_wp2_with fail
    refine (l1Next_x base g a c zs q3 4 (by decide) (by decide) _ hD7.src).mono ?_
    rintro e w8 ⟨rfl, hs8, hf8⟩
    have hD8 := hD7.call hs8 hf8
    generalize nxV zs q3 4 = y4 at *
    have w4e : IntKind.i64.wrap (1 + y4) = 1 + y4 := IntWalk.i64_in _ ⟨by omega, by omega⟩
    clear hD7 hs8 hf8
    go_wp2_with fail
    refine (l1Next_x base g a c zs _ 6 (by decide) (by decide) _ hD8.src).mono ?_
    rintro e w9 ⟨rfl, hs9, hf9⟩
    have hD9 := hD8.call hs9 hf9
    rw [H4.out] at hD9
    have HD9 : Hid (Du w base g a c zs X B G 1 T (.slice none 0 0) [] q4 w9) := hD9
    generalize nxV zs (nxS zs q3) 6 = y6 at *
    clear hD8 hs9 hf9 hD9 H4
    by_cases h6 : y6 = 0
    · have h6b : (y6 == 0) = true := by simpa using h6
      rw [if_pos h6] at HN
      have hn16 : (n : Int) = 16 := HN.out
      have hnn : n = 16 := by omega
      subst hnn
      clear h6 HN hn16 hv4 w4e
      go_wp2
      go_loopw [5] (fun i wr => ∃ (rs : List R2) (v : Value) (nx : Int) (p1 : Nat × Int) (m : Nat), rs.length + m = 16 ∧ i = .int .i64 rs.length ∧ dsL zs B rs nx p1 m = R ∧ Du w base g a c zs X B G nx T v rs p1 wr ∧ (1 ≤ nx ∧ nx ≤ 1 + 3 * rs.length)) (fun i _ => 16 - (intOf i).toNat)
      case atStart => exact ⟨[], _, 1, q4, 16, by simp, rfl, HR0.out, HD9.out, by simp⟩
      case round =>
        obtain ⟨rs, v, nx, p1, m, hm, rfl, hR, hD, hnx⟩ := hrel
        clear HD9 HR0
        obtain ⟨k, hkk⟩ : ∃ k, rs.length = k := ⟨_, rfl⟩
        obtain ⟨va, vc, hva, hvf⟩ := owns_form hD.own
        rw [hkk] at hva hm hnx ⊢
        subst hva
        cases m with
        | zero =>
          have hki : ¬ (k : Int) < 16 := by omega
          have hRe : R = (rs, nx, p1) := by rw [← hR]; rfl
          have HD : Hid _ := hD
          clear hR hD
          go_wp2_with fail
          refine (l1Next_x base g a c zs p1 8 (by decide) (by decide) _ HD.out.src).mono ?_
          rintro e wa ⟨rfl, hsa, hfa⟩
          have hDa := HD.out.call hsa hfa
          rw [hRe] at HX HS
          simp only at HX HS
          rw [HS.out] at hDa
          generalize nxV zs p1 8 = yy at *
          have HRE : Hid (R = (rs, nx, p1)) := hRe
          have HVF : Hid (Fsh (X + 1) va) := hvf
          clear HD hsa hfa hRe hvf
          by_cases hy : yy = 0
          · have hyb : (yy == 0) = true := by simpa using hy
            rw [if_pos hy] at HX
            have hNX : NX = 65535 := HX.out
            subst hNX
            obtain ⟨u0, u1, u2, u3, u4, uf⟩ := hDa.cells
            have uf2 := uf 2
            have HDa : Hid _ := hDa
            clear hy HX hDa uf
            go_upto_region 16 with fail
            have hDb := HDa.out.set2 65535
            clear u0 u1 u2 u3 u4 uf2 HDa
            generalize wa.setCell ⟨X, 2, none⟩ (.int .i64 65535) = Wb at *
            obtain ⟨u0, u1, u2, u3, u4, uf⟩ := hDb.cells
            have hres := hDb.res
            have hcy : Wb.cell? ⟨w.heap.size, 0, none⟩ = some (.int .i64 0) ∧ Wb.cell? ⟨w.heap.size, 1, none⟩ = some (.int .i64 0) ∧ Wb.cell? ⟨w.heap.size, 2, none⟩ = some (.int .i64 0) ∧ Wb.cell? ⟨w.heap.size, 3, none⟩ = some (.int .i64 0) ∧ Wb.cell? ⟨w.heap.size, 4, none⟩ = some (.slice none 0 0) := by simp [World.cell?, hres]
            obtain ⟨r0, r1, r2, r3, r4⟩ := hcy
            have hfy : ∀ i, Wb.frozen? ⟨w.heap.size, i, none⟩ = false := fun i => frozen_of_row Wb _ i _ _ hres
            have z0 := hfy 0
            have z1 := hfy 1
            have z2 := hfy 2
            have z3 := hfy 3
            have z4 := hfy 4
            have hlR : R.1.length = k := by rw [HRE.out]; exact hkk
            have hrd : TRead Wb (.slice va k vc) R.1 := by
              have q := hDb.own
              have q2 := owns_T (rs := rs) (a := va) (c := vc) (base := X + 1) (W := Wb) (by rw [hkk] at q ⊢; exact q)
              rw [hkk] at q2
              rw [HRE.out]
              exact q2
            have HEND : Hid (TRead (((((Wb.setCell ⟨w.heap.size, 0, none⟩ (.int .i64 B)).setCell ⟨w.heap.size, 1, none⟩ (.int .i64 G)).setCell ⟨w.heap.size, 2, none⟩ (.int .i64 65535)).setCell ⟨w.heap.size, 3, none⟩ (.int .i64 T)).setCell ⟨w.heap.size, 4, none⟩ (.slice va k vc)) (.slice va k vc) R.1 ∧ SrcX base g a c zs pE (((((Wb.setCell ⟨w.heap.size, 0, none⟩ (.int .i64 B)).setCell ⟨w.heap.size, 1, none⟩ (.int .i64 G)).setCell ⟨w.heap.size, 2, none⟩ (.int .i64 65535)).setCell ⟨w.heap.size, 3, none⟩ (.int .i64 T)).setCell ⟨w.heap.size, 4, none⟩ (.slice va k vc)) ∧ Frm (· = g) w (((((Wb.setCell ⟨w.heap.size, 0, none⟩ (.int .i64 B)).setCell ⟨w.heap.size, 1, none⟩ (.int .i64 G)).setCell ⟨w.heap.size, 2, none⟩ (.int .i64 65535)).setCell ⟨w.heap.size, 3, none⟩ (.int .i64 T)).setCell ⟨w.heap.size, 4, none⟩ (.slice va k vc))) := by
              have hu : Upd w.heap.size (w.heap.size + 1) Wb (((((Wb.setCell ⟨w.heap.size, 0, none⟩ (.int .i64 B)).setCell ⟨w.heap.size, 1, none⟩ (.int .i64 G)).setCell ⟨w.heap.size, 2, none⟩ (.int .i64 65535)).setCell ⟨w.heap.size, 3, none⟩ (.int .i64 T)).setCell ⟨w.heap.size, 4, none⟩ (.slice va k vc)) := (((((Upd.refl _ _ _).setCell (p := ⟨w.heap.size, 0, none⟩) (Nat.le_refl _) (Nat.lt_succ_self _) _).setCell (p := ⟨w.heap.size, 1, none⟩) (Nat.le_refl _) (Nat.lt_succ_self _) _).setCell (p := ⟨w.heap.size, 2, none⟩) (Nat.le_refl _) (Nat.lt_succ_self _) _).setCell (p := ⟨w.heap.size, 3, none⟩) (Nat.le_refl _) (Nat.lt_succ_self _) _).setCell (p := ⟨w.heap.size, 4, none⟩) (Nat.le_refl _) (Nat.lt_succ_self _) _
              have hfu : Frm (fun b => b = w.heap.size) Wb (((((Wb.setCell ⟨w.heap.size, 0, none⟩ (.int .i64 B)).setCell ⟨w.heap.size, 1, none⟩ (.int .i64 G)).setCell ⟨w.heap.size, 2, none⟩ (.int .i64 65535)).setCell ⟨w.heap.size, 3, none⟩ (.int .i64 T)).setCell ⟨w.heap.size, 4, none⟩ (.slice va k vc)) := ⟨hu.os, hu.tape, hu.output, hu.size, fun i hi hn => hu.block i hi (by omega)⟩
              have hlo := hDb.src.lo
              have hXX := hDb.hX
              have hFF := hDb.frm
              refine ⟨hrd.upd (fun q hq => by have := HVF.out q hq; omega) hu, hDb.src.frm hfu (by show ¬ g = w.heap.size; omega) (fun b hb => by omega), ?_⟩
              exact ⟨hu.os.trans hFF.os, hu.tape.trans hFF.tape, hu.output.trans hFF.output, Nat.le_trans hFF.size hu.size, fun i hi hn => (hu.block i (by have := hFF.size; omega) (.inl hi)).trans (hFF.block i hi hn)⟩
            have HLR : Hid (R.1.length = k) := hlR
            clear hres hfy hlR hrd hDb uf
            go_wp2
            exact bodyPost_ret (v := .agg #[.int .i64 B, .int .i64 G, .int .i64 65535, .int .i64 T, .slice va k vc]) (by simp [results, Tryz.results36, go_sem, r0, r1, r2, r3, r4]) rfl ⟨⟨va, vc, by rw [HLR.out], by rw [HLR.out]; exact HEND.out.1⟩, HEND.out.2⟩
          · have hyb : (yy == 0) = false := by simpa using hy
            rw [if_neg hy] at HX
            have hNX : NX = nx := HX.out
            subst hNX
            have hDb := hDa
            clear hy HX hDa
            generalize wa = Wb at *
            obtain ⟨u0, u1, u2, u3, u4, uf⟩ := hDb.cells
            have hres := hDb.res
            have hcy : Wb.cell? ⟨w.heap.size, 0, none⟩ = some (.int .i64 0) ∧ Wb.cell? ⟨w.heap.size, 1, none⟩ = some (.int .i64 0) ∧ Wb.cell? ⟨w.heap.size, 2, none⟩ = some (.int .i64 0) ∧ Wb.cell? ⟨w.heap.size, 3, none⟩ = some (.int .i64 0) ∧ Wb.cell? ⟨w.heap.size, 4, none⟩ = some (.slice none 0 0) := by simp [World.cell?, hres]
            obtain ⟨r0, r1, r2, r3, r4⟩ := hcy
            have hfy : ∀ i, Wb.frozen? ⟨w.heap.size, i, none⟩ = false := fun i => frozen_of_row Wb _ i _ _ hres
            have z0 := hfy 0
            have z1 := hfy 1
            have z2 := hfy 2
            have z3 := hfy 3
            have z4 := hfy 4
            have hlR : R.1.length = k := by rw [HRE.out]; exact hkk
            have hrd : TRead Wb (.slice va k vc) R.1 := by
              have q := hDb.own
              have q2 := owns_T (rs := rs) (a := va) (c := vc) (base := X + 1) (W := Wb) (by rw [hkk] at q ⊢; exact q)
              rw [hkk] at q2
              rw [HRE.out]
              exact q2
            have HEND : Hid (TRead (((((Wb.setCell ⟨w.heap.size, 0, none⟩ (.int .i64 B)).setCell ⟨w.heap.size, 1, none⟩ (.int .i64 G)).setCell ⟨w.heap.size, 2, none⟩ (.int .i64 NX)).setCell ⟨w.heap.size, 3, none⟩ (.int .i64 T)).setCell ⟨w.heap.size, 4, none⟩ (.slice va k vc)) (.slice va k vc) R.1 ∧ SrcX base g a c zs pE (((((Wb.setCell ⟨w.heap.size, 0, none⟩ (.int .i64 B)).setCell ⟨w.heap.size, 1, none⟩ (.int .i64 G)).setCell ⟨w.heap.size, 2, none⟩ (.int .i64 NX)).setCell ⟨w.heap.size, 3, none⟩ (.int .i64 T)).setCell ⟨w.heap.size, 4, none⟩ (.slice va k vc)) ∧ Frm (· = g) w (((((Wb.setCell ⟨w.heap.size, 0, none⟩ (.int .i64 B)).setCell ⟨w.heap.size, 1, none⟩ (.int .i64 G)).setCell ⟨w.heap.size, 2, none⟩ (.int .i64 NX)).setCell ⟨w.heap.size, 3, none⟩ (.int .i64 T)).setCell ⟨w.heap.size, 4, none⟩ (.slice va k vc))) := by
              have hu : Upd w.heap.size (w.heap.size + 1) Wb (((((Wb.setCell ⟨w.heap.size, 0, none⟩ (.int .i64 B)).setCell ⟨w.heap.size, 1, none⟩ (.int .i64 G)).setCell ⟨w.heap.size, 2, none⟩ (.int .i64 NX)).setCell ⟨w.heap.size, 3, none⟩ (.int .i64 T)).setCell ⟨w.heap.size, 4, none⟩ (.slice va k vc)) := (((((Upd.refl _ _ _).setCell (p := ⟨w.heap.size, 0, none⟩) (Nat.le_refl _) (Nat.lt_succ_self _) _).setCell (p := ⟨w.heap.size, 1, none⟩) (Nat.le_refl _) (Nat.lt_succ_self _) _).setCell (p := ⟨w.heap.size, 2, none⟩) (Nat.le_refl _) (Nat.lt_succ_self _) _).setCell (p := ⟨w.heap.size, 3, none⟩) (Nat.le_refl _) (Nat.lt_succ_self _) _).setCell (p := ⟨w.heap.size, 4, none⟩) (Nat.le_refl _) (Nat.lt_succ_self _) _
              have hfu : Frm (fun b => b = w.heap.size) Wb (((((Wb.setCell ⟨w.heap.size, 0, none⟩ (.int .i64 B)).setCell ⟨w.heap.size, 1, none⟩ (.int .i64 G)).setCell ⟨w.heap.size, 2, none⟩ (.int .i64 NX)).setCell ⟨w.heap.size, 3, none⟩ (.int .i64 T)).setCell ⟨w.heap.size, 4, none⟩ (.slice va k vc)) := ⟨hu.os, hu.tape, hu.output, hu.size, fun i hi hn => hu.block i hi (by omega)⟩
              have hlo := hDb.src.lo
              have hXX := hDb.hX
              have hFF := hDb.frm
              refine ⟨hrd.upd (fun q hq => by have := HVF.out q hq; omega) hu, hDb.src.frm hfu (by show ¬ g = w.heap.size; omega) (fun b hb => by omega), ?_⟩
              exact ⟨hu.os.trans hFF.os, hu.tape.trans hFF.tape, hu.output.trans hFF.output, Nat.le_trans hFF.size hu.size, fun i hi hn => (hu.block i (by have := hFF.size; omega) (.inl hi)).trans (hFF.block i hi hn)⟩
            have HLR : Hid (R.1.length = k) := hlR
            clear hres hfy hlR hrd hDb uf
            go_wp2
            exact bodyPost_ret (v := .agg #[.int .i64 B, .int .i64 G, .int .i64 NX, .int .i64 T, .slice va k vc]) (by simp [results, Tryz.results36, go_sem, r0, r1, r2, r3, r4]) rfl ⟨⟨va, vc, by rw [HLR.out], by rw [HLR.out]; exact HEND.out.1⟩, HEND.out.2⟩
        | succ m =>
          have hki : (k : Int) < 16 := by omega
          have HR : Hid (dsL zs B rs nx p1 (m + 1) = R) := hR
          clear hR
          obtain ⟨u0, u1, u2, u3, u4, uf⟩ := hD.cells
          have HD : Hid _ := hD
          clear hD
          go_wp2_with fail
          refine wp_region_E (fun w' => w'.cell? ⟨X, 2, none⟩ = some (.int .i64 nx)) 6 (by kernel_rfl) ?_
          have hq0 : (fun w' : World => w'.cell? ⟨X, 2, none⟩ = some (.int .i64 nx)) wr.drew := u2
          refine wpAnyE_take (i := 0) 37 (.pointer (some ⟨X, 2, none⟩)) (by kernel_rfl) rfl (by kernel_rfl) (by kernel_rfl) (by kernel_rfl) (fun _ _ _ h => h) rfl rfl hq0 (fun w' hw => by have m0 : w'.cell? ⟨X, 2, none⟩ = some (.int .i64 nx) := hw; go_simp <;> first | omega | kernel_rfl | decide) ?_
          simp only [Act.put, List.setIfInBounds_toArray, List.set_cons_zero, List.set_cons_succ]
          refine wpAnyE_take (i := 1) 38 (.int .i64 nx) (by kernel_rfl) rfl (by kernel_rfl) (by kernel_rfl) (by kernel_rfl) (fun _ _ _ h => h) rfl rfl hq0 (fun w' hw => by have m0 : w'.cell? ⟨X, 2, none⟩ = some (.int .i64 nx) := hw; go_simp <;> first | omega | kernel_rfl | decide) ?_
          simp only [Act.put, List.setIfInBounds_toArray, List.set_cons_zero, List.set_cons_succ]
          refine wpAnyE_take (i := 2) 39 (.pointer (some ⟨g, 0, none⟩)) (by kernel_rfl) rfl (by kernel_rfl) (by kernel_rfl) (by kernel_rfl) (fun _ _ _ h => h) rfl rfl hq0 (fun w' hw => by have m0 : w'.cell? ⟨X, 2, none⟩ = some (.int .i64 nx) := hw; go_simp <;> first | omega | kernel_rfl | decide) ?_
          simp only [Act.put, List.setIfInBounds_toArray, List.set_cons_zero, List.set_cons_succ]
          refine wpAnyE_one (i := 3) (by kernel_rfl) rfl rfl (fun K2 hK2 => ?_)
          go_simp
          refine (l1Next_x base g a c zs p1 3 (by decide) (by decide) wr.drew (HD.out.src.heap rfl)).mono ?_
          rintro e wc ⟨rfl, hsc, hfc⟩
          have hDc := (HD.out.call (W' := wr.drew) (HD.out.src.heap rfl) ((Frm.refl _ _).drew)).call hsc hfc
          have hv3c := nxV_in zs p1 (n := 3) (by decide) (by decide)
          have HRc : Hid (dsL zs B (rs ++ [(nx + nxV zs p1 3 - 1, 2 + nxV zs (nxS zs p1) (B - 2))]) (nx + nxV zs p1 3 + 1) (nxS zs (nxS zs p1)) m = R) := by
            have q := HR.out
            rw [dsL] at q
            exact q
          generalize nxV zs p1 3 = d3 at *
          have hqc : (fun w' : World => w'.cell? ⟨X, 2, none⟩ = some (.int .i64 nx)) wc := hDc.cells.2.2.1
          refine hK2 _ _ (fun _ => hqc) ?_
          clear hK2 K2
          try simp only [Act.put, List.setIfInBounds_toArray, List.set_cons_zero, List.set_cons_succ]
          have wn1 : IntKind.i64.wrap (nx + d3) = nx + d3 := IntWalk.i64_in _ ⟨by omega, by omega⟩
          refine wpAnyE_take (i := 4) 41 (.int .i64 (nx + d3)) (by kernel_rfl) rfl (by kernel_rfl) (by kernel_rfl) (by kernel_rfl) (fun _ _ _ h => h) rfl rfl hqc (fun w' hw => by have m0 : w'.cell? ⟨X, 2, none⟩ = some (.int .i64 nx) := hw; go_simp <;> first | omega | kernel_rfl | decide) ?_
          simp only [Act.put, List.setIfInBounds_toArray, List.set_cons_zero, List.set_cons_succ]
          refine wpAnyE_take (i := 5) 42 (.pointer (some ⟨X, 2, none⟩)) (by kernel_rfl) rfl (by kernel_rfl) (by kernel_rfl) (by kernel_rfl) (fun _ _ _ h => h) rfl rfl hqc (fun w' hw => by have m0 : w'.cell? ⟨X, 2, none⟩ = some (.int .i64 nx) := hw; go_simp <;> first | omega | kernel_rfl | decide) ?_
          simp only [Act.put, List.setIfInBounds_toArray, List.set_cons_zero, List.set_cons_succ]
          have y2c : wc.cell? ⟨X, 2, none⟩ = some (.int .i64 nx) := hqc
          have yfc : wc.frozen? ⟨X, 2, none⟩ = false := hDc.cells.2.2.2.2.2 2
          refine wpAnyE_one (i := 6) (by kernel_rfl) rfl rfl (fun K2 hK2 => ?_)
          go_simp
          refine hK2 _ _ (fun hne => absurd rfl hne) ?_
          clear hK2 K2
          refine wpAnyE_done (by kernel_rfl) ?_ _
          have hDd := hDc.set2 (nx + d3)
          have HDd : Hid _ := hDd
          clear u0 u1 u2 u3 u4 uf hq0 hqc y2c yfc hDc hsc hfc HD HR hDd
          generalize wc.setCell ⟨X, 2, none⟩ (.int .i64 (nx + d3)) = Wd at *
          obtain ⟨u0, u1, u2, u3, u4, uf⟩ := HDd.out.cells
          have wn2 : IntKind.i64.wrap (nx + d3 - 1) = nx + d3 - 1 := IntWalk.i64_in _ ⟨by omega, by omega⟩
          have wb2 : IntKind.i64.wrap (B - 2) = B - 2 := IntWalk.i64_in _ ⟨by omega, by omega⟩
          go_wp2_with fail
          refine wp_region_E (fun w' => w'.cell? ⟨X, 0, none⟩ = some (.int .i64 B) ∧ w'.cell? ⟨X, 2, none⟩ = some (.int .i64 (nx + d3)) ∧ w'.cell? ⟨X, 4, none⟩ = some (.slice va k vc)) 15 (by kernel_rfl) ?_
          have hq0 : (fun w' : World => w'.cell? ⟨X, 0, none⟩ = some (.int .i64 B) ∧ w'.cell? ⟨X, 2, none⟩ = some (.int .i64 (nx + d3)) ∧ w'.cell? ⟨X, 4, none⟩ = some (.slice va k vc)) Wd.drew := ⟨u0, u2, u4⟩
          refine wpAnyE_take (i := 0) 43 (.pointer (some ⟨X, 4, none⟩)) (by kernel_rfl) rfl (by kernel_rfl) (by kernel_rfl) (by kernel_rfl) (fun _ _ _ h => h) rfl rfl hq0 (fun w' hw => by obtain ⟨m0, m1, m2⟩ := hw; go_simp <;> first | omega | kernel_rfl | decide) ?_
          simp only [Act.put, List.setIfInBounds_toArray, List.set_cons_zero, List.set_cons_succ]
          refine wpAnyE_take (i := 1) 44 (.slice va k vc) (by kernel_rfl) rfl (by kernel_rfl) (by kernel_rfl) (by kernel_rfl) (fun _ _ _ h => h) rfl rfl hq0 (fun w' hw => by obtain ⟨m0, m1, m2⟩ := hw; go_simp <;> first | omega | kernel_rfl | decide) ?_
          simp only [Act.put, List.setIfInBounds_toArray, List.set_cons_zero, List.set_cons_succ]
          refine wpAnyE_take (i := 2) 45 (.pointer (some ⟨X, 2, none⟩)) (by kernel_rfl) rfl (by kernel_rfl) (by kernel_rfl) (by kernel_rfl) (fun _ _ _ h => h) rfl rfl hq0 (fun w' hw => by obtain ⟨m0, m1, m2⟩ := hw; go_simp <;> first | omega | kernel_rfl | decide) ?_
          simp only [Act.put, List.setIfInBounds_toArray, List.set_cons_zero, List.set_cons_succ]
          refine wpAnyE_take (i := 3) 46 (.int .i64 (nx + d3)) (by kernel_rfl) rfl (by kernel_rfl) (by kernel_rfl) (by kernel_rfl) (fun _ _ _ h => h) rfl rfl hq0 (fun w' hw => by obtain ⟨m0, m1, m2⟩ := hw; go_simp <;> first | omega | kernel_rfl | decide) ?_
          simp only [Act.put, List.setIfInBounds_toArray, List.set_cons_zero, List.set_cons_succ]
          refine wpAnyE_take (i := 4) 47 (.int .i64 (nx + d3 - 1)) (by kernel_rfl) rfl (by kernel_rfl) (by kernel_rfl) (by kernel_rfl) (fun _ _ _ h => h) rfl rfl hq0 (fun w' hw => by obtain ⟨m0, m1, m2⟩ := hw; go_simp <;> first | omega | kernel_rfl | decide) ?_
          simp only [Act.put, List.setIfInBounds_toArray, List.set_cons_zero, List.set_cons_succ]
          refine wpAnyE_take (i := 5) 48 (.pointer (some ⟨g, 0, none⟩)) (by kernel_rfl) rfl (by kernel_rfl) (by kernel_rfl) (by kernel_rfl) (fun _ _ _ h => h) rfl rfl hq0 (fun w' hw => by obtain ⟨m0, m1, m2⟩ := hw; go_simp <;> first | omega | kernel_rfl | decide) ?_
          simp only [Act.put, List.setIfInBounds_toArray, List.set_cons_zero, List.set_cons_succ]
          refine wpAnyE_take (i := 6) 49 (.pointer (some ⟨X, 0, none⟩)) (by kernel_rfl) rfl (by kernel_rfl) (by kernel_rfl) (by kernel_rfl) (fun _ _ _ h => h) rfl rfl hq0 (fun w' hw => by obtain ⟨m0, m1, m2⟩ := hw; go_simp <;> first | omega | kernel_rfl | decide) ?_
          simp only [Act.put, List.setIfInBounds_toArray, List.set_cons_zero, List.set_cons_succ]
          refine wpAnyE_take (i := 7) 50 (.int .i64 B) (by kernel_rfl) rfl (by kernel_rfl) (by kernel_rfl) (by kernel_rfl) (fun _ _ _ h => h) rfl rfl hq0 (fun w' hw => by obtain ⟨m0, m1, m2⟩ := hw; go_simp <;> first | omega | kernel_rfl | decide) ?_
          simp only [Act.put, List.setIfInBounds_toArray, List.set_cons_zero, List.set_cons_succ]
          refine wpAnyE_take (i := 8) 51 (.int .i64 (B - 2)) (by kernel_rfl) rfl (by kernel_rfl) (by kernel_rfl) (by kernel_rfl) (fun _ _ _ h => h) rfl rfl hq0 (fun w' hw => by obtain ⟨m0, m1, m2⟩ := hw; go_simp <;> first | omega | kernel_rfl | decide) ?_
          simp only [Act.put, List.setIfInBounds_toArray, List.set_cons_zero, List.set_cons_succ]
          have hv5 := nxV_in zs (nxS zs p1) (n := B - 2) (by omega) (by omega)
          refine wpAnyE_one (i := 9) (by kernel_rfl) rfl rfl (fun K2 hK2 => ?_)
          go_simp
          refine (l1Next_x base g a c zs (nxS zs p1) (B - 2) (by omega) (by omega) Wd.drew (HDd.out.src.heap rfl)).mono ?_
          rintro e we ⟨rfl, hse, hfe⟩
          have hDe := (HDd.out.call (W' := Wd.drew) (HDd.out.src.heap rfl) ((Frm.refl _ _).drew)).call hse hfe
          generalize nxV zs (nxS zs p1) (B - 2) = b5 at *
          have wb5 : IntKind.i64.wrap (2 + b5) = 2 + b5 := IntWalk.i64_in _ ⟨by omega, by omega⟩
          have hqe : (fun w' : World => w'.cell? ⟨X, 0, none⟩ = some (.int .i64 B) ∧ w'.cell? ⟨X, 2, none⟩ = some (.int .i64 (nx + d3)) ∧ w'.cell? ⟨X, 4, none⟩ = some (.slice va k vc)) we := ⟨hDe.cells.1, hDe.cells.2.2.1, hDe.cells.2.2.2.2.1⟩
          refine hK2 _ _ (fun _ => hqe) ?_
          clear hK2 K2
          try simp only [Act.put, List.setIfInBounds_toArray, List.set_cons_zero, List.set_cons_succ]
          refine wpAnyE_take (i := 10) 53 (.int .i64 (2 + b5)) (by kernel_rfl) rfl (by kernel_rfl) (by kernel_rfl) (by kernel_rfl) (fun _ _ _ h => h) rfl rfl hqe (fun w' hw => by obtain ⟨m0, m1, m2⟩ := hw; go_simp <;> first | omega | kernel_rfl | decide) ?_
          simp only [Act.put, List.setIfInBounds_toArray, List.set_cons_zero, List.set_cons_succ]
          refine wpAnyE_take (i := 11) 54 (.agg #[.int .i64 (nx + d3 - 1), .int .i64 (2 + b5)]) (by kernel_rfl) rfl (by kernel_rfl) (by kernel_rfl) (by kernel_rfl) (fun _ _ _ h => h) rfl rfl hqe (fun w' hw => by obtain ⟨m0, m1, m2⟩ := hw; go_simp <;> first | omega | kernel_rfl | decide) ?_
          simp only [Act.put, List.setIfInBounds_toArray, List.set_cons_zero, List.set_cons_succ]
          refine wpAnyE_one (i := 12) (by kernel_rfl) rfl rfl (fun K2 hK2 => ?_)
          go_simp
          obtain ⟨Wf, HWf⟩ : ∃ Wf, Hid (Wf = (we.alloc (.cells #[.int .i64 (nx + d3 - 1), .int .i64 (2 + b5)] 46))) := ⟨_, rfl⟩
          have hDf : Du w base g a c zs X B G (nx + d3) T (.slice va k vc) rs (nxS zs (nxS zs p1)) Wf := by rw [HWf.out]; exact hDe.below (belowA _ _)
          have hnw : Wf.heap[we.heap.size]? = some (.cells #[.int .i64 (nx + d3 - 1), .int .i64 (2 + b5)] 46 (0, 0)) := by rw [HWf.out]; exact heap_alloc_new _ _
          rw [← HWf.out]
          clear HWf
          have hqf : (fun w' : World => w'.cell? ⟨X, 0, none⟩ = some (.int .i64 B) ∧ w'.cell? ⟨X, 2, none⟩ = some (.int .i64 (nx + d3)) ∧ w'.cell? ⟨X, 4, none⟩ = some (.slice va k vc)) Wf := ⟨hDf.cells.1, hDf.cells.2.2.1, hDf.cells.2.2.2.2.1⟩
          refine hK2 _ _ (fun _ => hqf) ?_
          clear hK2 K2
          refine wpAnyE_one (i := 13) (by kernel_rfl) rfl rfl (fun K2 hK2 => ?_)
          have hlb : X + 1 ≤ Wf.heap.size := (Array.getElem?_eq_some_iff.1 hDf.box).1
          have hownf : Wf.ownsRow (X + 1) 46 2 (.slice va k vc) k (rs.flatMap flat2) := by have q := hDf.own; rw [hkk] at q; exact q
          refine wp_appendT _ _ 39 46 _ 2 16 Tryz.underlying39 infoRoot rfl (by decide) rfl (base := X + 1) hownf rfl ⟨we.heap.size, 0, none⟩ 1 1 rfl [.int .i64 (nx + d3 - 1), .int .i64 (2 + b5)] rfl ?_ (fun u hm => List.all_eq_true.1 (show ([.int .i64 (nx + d3 - 1), .int .i64 (2 + b5)] : List Value).all (·.oneCell') = true from rfl) u hm) (by omega) (by omega) hlb ?_
          · intro j u hj
            rw [Addr.add_mid, Nat.zero_add]
            simpa [World.cell?, hnw] using hj
          intro v' w8 hown8 hns8 hbl8
          obtain ⟨ya, yc, rfl, hyf⟩ := owns_form hown8
          have hown9 : w8.ownsRow (X + 1) 46 2 (.slice ya (k + 1) yc) (k + 1) ((rs ++ [(nx + d3 - 1, 2 + b5)]).flatMap flat2) := by rw [flat_snoc]; exact hown8
          have HOWN9 : Hid _ := hown9
          clear hown8 hown9
          show K2 (Act.put _ (some 56) _) w8
          have hX8 := hns8.cells hDf.box (by decide)
          have hr8 := hns8.cells hDf.res (by decide)
          have hXX := hDf.hX
          have hlo := hDf.src.lo
          have hf8 : Frm (fun b => X + 1 ≤ b) Wf w8 := ⟨hbl8.os, hbl8.tape, hbl8.output, hbl8.size, fun i _ hn => hbl8.block i (by omega)⟩
          have hs8 : SrcX base g a c zs (nxS zs (nxS zs p1)) w8 := hDf.src.frm hf8 (by omega) (fun b hb => by omega)
          have hq8 : (fun w' : World => w'.cell? ⟨X, 0, none⟩ = some (.int .i64 B) ∧ w'.cell? ⟨X, 2, none⟩ = some (.int .i64 (nx + d3)) ∧ w'.cell? ⟨X, 4, none⟩ = some (.slice va k vc)) w8 := ⟨(cell_of_row w8 X 0 _ _ _ hX8).trans rfl, (cell_of_row w8 X 2 _ _ _ hX8).trans rfl, (cell_of_row w8 X 4 _ _ _ hX8).trans rfl⟩
          refine hK2 _ _ (fun _ => hq8) ?_
          clear hK2 K2
          simp only [Act.put, List.setIfInBounds_toArray, List.set_cons_zero, List.set_cons_succ]
          refine wpAnyE_take (i := 14) 57 (.pointer (some ⟨X, 4, none⟩)) (by kernel_rfl) rfl (by kernel_rfl) (by kernel_rfl) (by kernel_rfl) (fun _ _ _ h => h) rfl rfl hq8 (fun w' hw => by obtain ⟨m0, m1, m2⟩ := hw; go_simp) ?_
          simp only [Act.put, List.setIfInBounds_toArray, List.set_cons_zero, List.set_cons_succ]
          have y4c : w8.cell? ⟨X, 4, none⟩ = some (.slice va k vc) := hq8.2.2
          have yfc : w8.frozen? ⟨X, 4, none⟩ = false := frozen_of_row w8 X _ _ _ hX8
          refine wpAnyE_one (i := 15) (by kernel_rfl) rfl rfl (fun K2 hK2 => ?_)
          go_simp
          refine hK2 _ _ (fun hne => absurd rfl hne) ?_
          clear hK2 K2
          refine wpAnyE_done (by kernel_rfl) ?_ _
          have hX9 : (w8.setCell ⟨X, 4, none⟩ (.slice ya (k + 1) yc)).heap[X]? = some (.cells #[.int .i64 B, .int .i64 G, .int .i64 (nx + d3), .int .i64 T, .slice ya (k + 1) yc] 41 (0, 0)) := by simpa using heap_setCell_same w8 X 4 _ _ (.slice ya (k + 1) yc) hX8
          have HD9 : Hid (Du w base g a c zs X B G (nx + d3) T (.slice ya (k + 1) yc) (rs ++ [(nx + d3 - 1, 2 + b5)]) (nxS zs (nxS zs p1)) (w8.setCell ⟨X, 4, none⟩ (.slice ya (k + 1) yc))) := by
            refine ⟨(Below.heap_setCell _ ⟨X, 4, none⟩ _ _ (by show w.heap.size ≠ X; omega)).trans hr8, hX9, ?_, hXX, hs8.frm (S := fun b => b = X) ⟨rfl, rfl, rfl, by simp [World.setCell], fun k _ hn => Below.heap_setCell _ _ _ _ hn⟩ (by show ¬ g = X; omega) (fun b hb => by omega), ?_, hgl⟩
            · rw [List.length_append, hkk]
              exact owns_set HOWN9.out _ (by show X < X + 1; omega) _
            · have hfw := hDf.frm
              refine ⟨hbl8.os.trans hfw.os, hbl8.tape.trans hfw.tape, hbl8.output.trans hfw.output, Nat.le_trans hfw.size (Nat.le_trans hbl8.size (by simp [World.setCell])), fun i hi hn => ?_⟩
              exact (Below.heap_setCell _ ⟨X, 4, none⟩ _ _ (by show i ≠ X; omega)).trans ((hbl8.block i (by omega)).trans (hfw.block i hi hn))
          clear u0 u1 u2 u3 u4 uf hq0 hqe hqf hq8 y4c yfc hDe hDf hnw hX8 hr8 hs8 hX9 HOWN9 HDd hse hfe hownf
          generalize w8.setCell ⟨X, 4, none⟩ (.slice ya (k + 1) yc) = Wg at *
          obtain ⟨u0, u1, u2, u3, u4, uf⟩ := HD9.out.cells
          have uf2 := uf 2
          have wn3 : IntKind.i64.wrap (nx + d3 + 1) = nx + d3 + 1 := IntWalk.i64_in _ ⟨by omega, by omega⟩
          have HDh : Hid _ := HD9.out.set2 (nx + d3 + 1)
          clear uf
          go_wp2
          go_roundw
          case rel => exact ⟨rs ++ [(nx + d3 - 1, 2 + b5)], _, nx + d3 + 1, _, m, by rw [List.length_append, hkk]; show k + 1 + m = 16; omega, by rw [List.length_append, hkk]; first | rfl | go_num, HRc.out, HDh.out, by rw [List.length_append, hkk]; exact ⟨by omega, by show nx + d3 + 1 ≤ 1 + 3 * ((k + 1 : Nat) : Int); omega⟩⟩
          case measure => simp [intOf]; omega
    · have h6b : (y6 == 0) = false := by simpa using h6
      rw [if_neg h6] at HN
      have hne : 1 + y4 = (n : Int) := HN.out.symm
      rw [hne] at w4e
      rw [hne]
      clear h6 HN
      go_wp2
      go_loopw [5] (fun i wr => ∃ (rs : List R2) (v : Value) (nx : Int) (p1 : Nat × Int) (m : Nat), rs.length + m = n ∧ i = .int .i64 rs.length ∧ dsL zs B rs nx p1 m = R ∧ Du w base g a c zs X B G nx T v rs p1 wr ∧ (1 ≤ nx ∧ nx ≤ 1 + 3 * rs.length)) (fun i _ => n - (intOf i).toNat)
      case atStart => exact ⟨[], _, 1, q4, n, by simp, rfl, HR0.out, HD9.out, by simp⟩
      case round =>
        obtain ⟨rs, v, nx, p1, m, hm, rfl, hR, hD, hnx⟩ := hrel
        clear HD9 HR0
        obtain ⟨k, hkk⟩ : ∃ k, rs.length = k := ⟨_, rfl⟩
        obtain ⟨va, vc, hva, hvf⟩ := owns_form hD.own
        rw [hkk] at hva hm hnx ⊢
        subst hva
        cases m with
        | zero =>
          have hki : ¬ (k : Int) < (n : Int) := by omega
          have hRe : R = (rs, nx, p1) := by rw [← hR]; rfl
          have HD : Hid _ := hD
          clear hR hD
          go_wp2_with fail
          refine (l1Next_x base g a c zs p1 8 (by decide) (by decide) _ HD.out.src).mono ?_
          rintro e wa ⟨rfl, hsa, hfa⟩
          have hDa := HD.out.call hsa hfa
          rw [hRe] at HX HS
          simp only at HX HS
          rw [HS.out] at hDa
          generalize nxV zs p1 8 = yy at *
          have HRE : Hid (R = (rs, nx, p1)) := hRe
          have HVF : Hid (Fsh (X + 1) va) := hvf
          clear HD hsa hfa hRe hvf
          by_cases hy : yy = 0
          · have hyb : (yy == 0) = true := by simpa using hy
            rw [if_pos hy] at HX
            have hNX : NX = 65535 := HX.out
            subst hNX
            obtain ⟨u0, u1, u2, u3, u4, uf⟩ := hDa.cells
            have uf2 := uf 2
            have HDa : Hid _ := hDa
            clear hy HX hDa uf
            go_upto_region 16 with fail
            have hDb := HDa.out.set2 65535
            clear u0 u1 u2 u3 u4 uf2 HDa
            generalize wa.setCell ⟨X, 2, none⟩ (.int .i64 65535) = Wb at *
            obtain ⟨u0, u1, u2, u3, u4, uf⟩ := hDb.cells
            have hres := hDb.res
            have hcy : Wb.cell? ⟨w.heap.size, 0, none⟩ = some (.int .i64 0) ∧ Wb.cell? ⟨w.heap.size, 1, none⟩ = some (.int .i64 0) ∧ Wb.cell? ⟨w.heap.size, 2, none⟩ = some (.int .i64 0) ∧ Wb.cell? ⟨w.heap.size, 3, none⟩ = some (.int .i64 0) ∧ Wb.cell? ⟨w.heap.size, 4, none⟩ = some (.slice none 0 0) := by simp [World.cell?, hres]
            obtain ⟨r0, r1, r2, r3, r4⟩ := hcy
            have hfy : ∀ i, Wb.frozen? ⟨w.heap.size, i, none⟩ = false := fun i => frozen_of_row Wb _ i _ _ hres
            have z0 := hfy 0
            have z1 := hfy 1
            have z2 := hfy 2
            have z3 := hfy 3
            have z4 := hfy 4
            have hlR : R.1.length = k := by rw [HRE.out]; exact hkk
            have hrd : TRead Wb (.slice va k vc) R.1 := by
              have q := hDb.own
              have q2 := owns_T (rs := rs) (a := va) (c := vc) (base := X + 1) (W := Wb) (by rw [hkk] at q ⊢; exact q)
              rw [hkk] at q2
              rw [HRE.out]
              exact q2
            have HEND : Hid (TRead (((((Wb.setCell ⟨w.heap.size, 0, none⟩ (.int .i64 B)).setCell ⟨w.heap.size, 1, none⟩ (.int .i64 G)).setCell ⟨w.heap.size, 2, none⟩ (.int .i64 65535)).setCell ⟨w.heap.size, 3, none⟩ (.int .i64 T)).setCell ⟨w.heap.size, 4, none⟩ (.slice va k vc)) (.slice va k vc) R.1 ∧ SrcX base g a c zs pE (((((Wb.setCell ⟨w.heap.size, 0, none⟩ (.int .i64 B)).setCell ⟨w.heap.size, 1, none⟩ (.int .i64 G)).setCell ⟨w.heap.size, 2, none⟩ (.int .i64 65535)).setCell ⟨w.heap.size, 3, none⟩ (.int .i64 T)).setCell ⟨w.heap.size, 4, none⟩ (.slice va k vc)) ∧ Frm (· = g) w (((((Wb.setCell ⟨w.heap.size, 0, none⟩ (.int .i64 B)).setCell ⟨w.heap.size, 1, none⟩ (.int .i64 G)).setCell ⟨w.heap.size, 2, none⟩ (.int .i64 65535)).setCell ⟨w.heap.size, 3, none⟩ (.int .i64 T)).setCell ⟨w.heap.size, 4, none⟩ (.slice va k vc))) := by
              have hu : Upd w.heap.size (w.heap.size + 1) Wb (((((Wb.setCell ⟨w.heap.size, 0, none⟩ (.int .i64 B)).setCell ⟨w.heap.size, 1, none⟩ (.int .i64 G)).setCell ⟨w.heap.size, 2, none⟩ (.int .i64 65535)).setCell ⟨w.heap.size, 3, none⟩ (.int .i64 T)).setCell ⟨w.heap.size, 4, none⟩ (.slice va k vc)) := (((((Upd.refl _ _ _).setCell (p := ⟨w.heap.size, 0, none⟩) (Nat.le_refl _) (Nat.lt_succ_self _) _).setCell (p := ⟨w.heap.size, 1, none⟩) (Nat.le_refl _) (Nat.lt_succ_self _) _).setCell (p := ⟨w.heap.size, 2, none⟩) (Nat.le_refl _) (Nat.lt_succ_self _) _).setCell (p := ⟨w.heap.size, 3, none⟩) (Nat.le_refl _) (Nat.lt_succ_self _) _).setCell (p := ⟨w.heap.size, 4, none⟩) (Nat.le_refl _) (Nat.lt_succ_self _) _
              have hfu : Frm (fun b => b = w.heap.size) Wb (((((Wb.setCell ⟨w.heap.size, 0, none⟩ (.int .i64 B)).setCell ⟨w.heap.size, 1, none⟩ (.int .i64 G)).setCell ⟨w.heap.size, 2, none⟩ (.int .i64 65535)).setCell ⟨w.heap.size, 3, none⟩ (.int .i64 T)).setCell ⟨w.heap.size, 4, none⟩ (.slice va k vc)) := ⟨hu.os, hu.tape, hu.output, hu.size, fun i hi hn => hu.block i hi (by omega)⟩
              have hlo := hDb.src.lo
              have hXX := hDb.hX
              have hFF := hDb.frm
              refine ⟨hrd.upd (fun q hq => by have := HVF.out q hq; omega) hu, hDb.src.frm hfu (by show ¬ g = w.heap.size; omega) (fun b hb => by omega), ?_⟩
              exact ⟨hu.os.trans hFF.os, hu.tape.trans hFF.tape, hu.output.trans hFF.output, Nat.le_trans hFF.size hu.size, fun i hi hn => (hu.block i (by have := hFF.size; omega) (.inl hi)).trans (hFF.block i hi hn)⟩
            have HLR : Hid (R.1.length = k) := hlR
            clear hres hfy hlR hrd hDb uf
            go_wp2
            exact bodyPost_ret (v := .agg #[.int .i64 B, .int .i64 G, .int .i64 65535, .int .i64 T, .slice va k vc]) (by simp [results, Tryz.results36, go_sem, r0, r1, r2, r3, r4]) rfl ⟨⟨va, vc, by rw [HLR.out], by rw [HLR.out]; exact HEND.out.1⟩, HEND.out.2⟩
          · have hyb : (yy == 0) = false := by simpa using hy
            rw [if_neg hy] at HX
            have hNX : NX = nx := HX.out
            subst hNX
            have hDb := hDa
            clear hy HX hDa
            generalize wa = Wb at *
            obtain ⟨u0, u1, u2, u3, u4, uf⟩ := hDb.cells
            have hres := hDb.res
            have hcy : Wb.cell? ⟨w.heap.size, 0, none⟩ = some (.int .i64 0) ∧ Wb.cell? ⟨w.heap.size, 1, none⟩ = some (.int .i64 0) ∧ Wb.cell? ⟨w.heap.size, 2, none⟩ = some (.int .i64 0) ∧ Wb.cell? ⟨w.heap.size, 3, none⟩ = some (.int .i64 0) ∧ Wb.cell? ⟨w.heap.size, 4, none⟩ = some (.slice none 0 0) := by simp [World.cell?, hres]
            obtain ⟨r0, r1, r2, r3, r4⟩ := hcy
            have hfy : ∀ i, Wb.frozen? ⟨w.heap.size, i, none⟩ = false := fun i => frozen_of_row Wb _ i _ _ hres
            have z0 := hfy 0
            have z1 := hfy 1
            have z2 := hfy 2
            have z3 := hfy 3
            have z4 := hfy 4
            have hlR : R.1.length = k := by rw [HRE.out]; exact hkk
            have hrd : TRead Wb (.slice va k vc) R.1 := by
              have q := hDb.own
              have q2 := owns_T (rs := rs) (a := va) (c := vc) (base := X + 1) (W := Wb) (by rw [hkk] at q ⊢; exact q)
              rw [hkk] at q2
              rw [HRE.out]
              exact q2
            have HEND : Hid (TRead (((((Wb.setCell ⟨w.heap.size, 0, none⟩ (.int .i64 B)).setCell ⟨w.heap.size, 1, none⟩ (.int .i64 G)).setCell ⟨w.heap.size, 2, none⟩ (.int .i64 NX)).setCell ⟨w.heap.size, 3, none⟩ (.int .i64 T)).setCell ⟨w.heap.size, 4, none⟩ (.slice va k vc)) (.slice va k vc) R.1 ∧ SrcX base g a c zs pE (((((Wb.setCell ⟨w.heap.size, 0, none⟩ (.int .i64 B)).setCell ⟨w.heap.size, 1, none⟩ (.int .i64 G)).setCell ⟨w.heap.size, 2, none⟩ (.int .i64 NX)).setCell ⟨w.heap.size, 3, none⟩ (.int .i64 T)).setCell ⟨w.heap.size, 4, none⟩ (.slice va k vc)) ∧ Frm (· = g) w (((((Wb.setCell ⟨w.heap.size, 0, none⟩ (.int .i64 B)).setCell ⟨w.heap.size, 1, none⟩ (.int .i64 G)).setCell ⟨w.heap.size, 2, none⟩ (.int .i64 NX)).setCell ⟨w.heap.size, 3, none⟩ (.int .i64 T)).setCell ⟨w.heap.size, 4, none⟩ (.slice va k vc))) := by
              have hu : Upd w.heap.size (w.heap.size + 1) Wb (((((Wb.setCell ⟨w.heap.size, 0, none⟩ (.int .i64 B)).setCell ⟨w.heap.size, 1, none⟩ (.int .i64 G)).setCell ⟨w.heap.size, 2, none⟩ (.int .i64 NX)).setCell ⟨w.heap.size, 3, none⟩ (.int .i64 T)).setCell ⟨w.heap.size, 4, none⟩ (.slice va k vc)) := (((((Upd.refl _ _ _).setCell (p := ⟨w.heap.size, 0, none⟩) (Nat.le_refl _) (Nat.lt_succ_self _) _).setCell (p := ⟨w.heap.size, 1, none⟩) (Nat.le_refl _) (Nat.lt_succ_self _) _).setCell (p := ⟨w.heap.size, 2, none⟩) (Nat.le_refl _) (Nat.lt_succ_self _) _).setCell (p := ⟨w.heap.size, 3, none⟩) (Nat.le_refl _) (Nat.lt_succ_self _) _).setCell (p := ⟨w.heap.size, 4, none⟩) (Nat.le_refl _) (Nat.lt_succ_self _) _
              have hfu : Frm (fun b => b = w.heap.size) Wb (((((Wb.setCell ⟨w.heap.size, 0, none⟩ (.int .i64 B)).setCell ⟨w.heap.size, 1, none⟩ (.int .i64 G)).setCell ⟨w.heap.size, 2, none⟩ (.int .i64 NX)).setCell ⟨w.heap.size, 3, none⟩ (.int .i64 T)).setCell ⟨w.heap.size, 4, none⟩ (.slice va k vc)) := ⟨hu.os, hu.tape, hu.output, hu.size, fun i hi hn => hu.block i hi (by omega)⟩
              have hlo := hDb.src.lo
              have hXX := hDb.hX
              have hFF := hDb.frm
              refine ⟨hrd.upd (fun q hq => by have := HVF.out q hq; omega) hu, hDb.src.frm hfu (by show ¬ g = w.heap.size; omega) (fun b hb => by omega), ?_⟩
              exact ⟨hu.os.trans hFF.os, hu.tape.trans hFF.tape, hu.output.trans hFF.output, Nat.le_trans hFF.size hu.size, fun i hi hn => (hu.block i (by have := hFF.size; omega) (.inl hi)).trans (hFF.block i hi hn)⟩
            have HLR : Hid (R.1.length = k) := hlR
            clear hres hfy hlR hrd hDb uf
            go_wp2
            exact bodyPost_ret (v := .agg #[.int .i64 B, .int .i64 G, .int .i64 NX, .int .i64 T, .slice va k vc]) (by simp [results, Tryz.results36, go_sem, r0, r1, r2, r3, r4]) rfl ⟨⟨va, vc, by rw [HLR.out], by rw [HLR.out]; exact HEND.out.1⟩, HEND.out.2⟩
        | succ m =>
          have hki : (k : Int) < (n : Int) := by omega
          have HR : Hid (dsL zs B rs nx p1 (m + 1) = R) := hR
          clear hR
          obtain ⟨u0, u1, u2, u3, u4, uf⟩ := hD.cells
          have HD : Hid _ := hD
          clear hD
          go_wp2_with fail
          refine wp_region_E (fun w' => w'.cell? ⟨X, 2, none⟩ = some (.int .i64 nx)) 6 (by kernel_rfl) ?_
          have hq0 : (fun w' : World => w'.cell? ⟨X, 2, none⟩ = some (.int .i64 nx)) wr.drew := u2
          refine wpAnyE_take (i := 0) 37 (.pointer (some ⟨X, 2, none⟩)) (by kernel_rfl) rfl (by kernel_rfl) (by kernel_rfl) (by kernel_rfl) (fun _ _ _ h => h) rfl rfl hq0 (fun w' hw => by have m0 : w'.cell? ⟨X, 2, none⟩ = some (.int .i64 nx) := hw; go_simp <;> first | omega | kernel_rfl | decide) ?_
          simp only [Act.put, List.setIfInBounds_toArray, List.set_cons_zero, List.set_cons_succ]
          refine wpAnyE_take (i := 1) 38 (.int .i64 nx) (by kernel_rfl) rfl (by kernel_rfl) (by kernel_rfl) (by kernel_rfl) (fun _ _ _ h => h) rfl rfl hq0 (fun w' hw => by have m0 : w'.cell? ⟨X, 2, none⟩ = some (.int .i64 nx) := hw; go_simp <;> first | omega | kernel_rfl | decide) ?_
          simp only [Act.put, List.setIfInBounds_toArray, List.set_cons_zero, List.set_cons_succ]
          refine wpAnyE_take (i := 2) 39 (.pointer (some ⟨g, 0, none⟩)) (by kernel_rfl) rfl (by kernel_rfl) (by kernel_rfl) (by kernel_rfl) (fun _ _ _ h => h) rfl rfl hq0 (fun w' hw => by have m0 : w'.cell? ⟨X, 2, none⟩ = some (.int .i64 nx) := hw; go_simp <;> first | omega | kernel_rfl | decide) ?_
          simp only [Act.put, List.setIfInBounds_toArray, List.set_cons_zero, List.set_cons_succ]
          refine wpAnyE_one (i := 3) (by kernel_rfl) rfl rfl (fun K2 hK2 => ?_)
          go_simp
          refine (l1Next_x base g a c zs p1 3 (by decide) (by decide) wr.drew (HD.out.src.heap rfl)).mono ?_
          rintro e wc ⟨rfl, hsc, hfc⟩
          have hDc := (HD.out.call (W' := wr.drew) (HD.out.src.heap rfl) ((Frm.refl _ _).drew)).call hsc hfc
          have hv3c := nxV_in zs p1 (n := 3) (by decide) (by decide)
          have HRc : Hid (dsL zs B (rs ++ [(nx + nxV zs p1 3 - 1, 2 + nxV zs (nxS zs p1) (B - 2))]) (nx + nxV zs p1 3 + 1) (nxS zs (nxS zs p1)) m = R) := by
            have q := HR.out
            rw [dsL] at q
            exact q
          generalize nxV zs p1 3 = d3 at *
          have hqc : (fun w' : World => w'.cell? ⟨X, 2, none⟩ = some (.int .i64 nx)) wc := hDc.cells.2.2.1
          refine hK2 _ _ (fun _ => hqc) ?_
          clear hK2 K2
          try simp only [Act.put, List.setIfInBounds_toArray, List.set_cons_zero, List.set_cons_succ]
          have wn1 : IntKind.i64.wrap (nx + d3) = nx + d3 := IntWalk.i64_in _ ⟨by omega, by omega⟩
          refine wpAnyE_take (i := 4) 41 (.int .i64 (nx + d3)) (by kernel_rfl) rfl (by kernel_rfl) (by kernel_rfl) (by kernel_rfl) (fun _ _ _ h => h) rfl rfl hqc (fun w' hw => by have m0 : w'.cell? ⟨X, 2, none⟩ = some (.int .i64 nx) := hw; go_simp <;> first | omega | kernel_rfl | decide) ?_
          simp only [Act.put, List.setIfInBounds_toArray, List.set_cons_zero, List.set_cons_succ]
          refine wpAnyE_take (i := 5) 42 (.pointer (some ⟨X, 2, none⟩)) (by kernel_rfl) rfl (by kernel_rfl) (by kernel_rfl) (by kernel_rfl) (fun _ _ _ h => h) rfl rfl hqc (fun w' hw => by have m0 : w'.cell? ⟨X, 2, none⟩ = some (.int .i64 nx) := hw; go_simp <;> first | omega | kernel_rfl | decide) ?_
          simp only [Act.put, List.setIfInBounds_toArray, List.set_cons_zero, List.set_cons_succ]
          have y2c : wc.cell? ⟨X, 2, none⟩ = some (.int .i64 nx) := hqc
          have yfc : wc.frozen? ⟨X, 2, none⟩ = false := hDc.cells.2.2.2.2.2 2
          refine wpAnyE_one (i := 6) (by kernel_rfl) rfl rfl (fun K2 hK2 => ?_)
          go_simp
          refine hK2 _ _ (fun hne => absurd rfl hne) ?_
          clear hK2 K2
          refine wpAnyE_done (by kernel_rfl) ?_ _
          have hDd := hDc.set2 (nx + d3)
          have HDd : Hid _ := hDd
          clear u0 u1 u2 u3 u4 uf hq0 hqc y2c yfc hDc hsc hfc HD HR hDd
          generalize wc.setCell ⟨X, 2, none⟩ (.int .i64 (nx + d3)) = Wd at *
          obtain ⟨u0, u1, u2, u3, u4, uf⟩ := HDd.out.cells
          have wn2 : IntKind.i64.wrap (nx + d3 - 1) = nx + d3 - 1 := IntWalk.i64_in _ ⟨by omega, by omega⟩
          have wb2 : IntKind.i64.wrap (B - 2) = B - 2 := IntWalk.i64_in _ ⟨by omega, by omega⟩
          go_wp2_with fail
          refine wp_region_E (fun w' => w'.cell? ⟨X, 0, none⟩ = some (.int .i64 B) ∧ w'.cell? ⟨X, 2, none⟩ = some (.int .i64 (nx + d3)) ∧ w'.cell? ⟨X, 4, none⟩ = some (.slice va k vc)) 15 (by kernel_rfl) ?_
          have hq0 : (fun w' : World => w'.cell? ⟨X, 0, none⟩ = some (.int .i64 B) ∧ w'.cell? ⟨X, 2, none⟩ = some (.int .i64 (nx + d3)) ∧ w'.cell? ⟨X, 4, none⟩ = some (.slice va k vc)) Wd.drew := ⟨u0, u2, u4⟩
          refine wpAnyE_take (i := 0) 43 (.pointer (some ⟨X, 4, none⟩)) (by kernel_rfl) rfl (by kernel_rfl) (by kernel_rfl) (by kernel_rfl) (fun _ _ _ h => h) rfl rfl hq0 (fun w' hw => by obtain ⟨m0, m1, m2⟩ := hw; go_simp <;> first | omega | kernel_rfl | decide) ?_
          simp only [Act.put, List.setIfInBounds_toArray, List.set_cons_zero, List.set_cons_succ]
          refine wpAnyE_take (i := 1) 44 (.slice va k vc) (by kernel_rfl) rfl (by kernel_rfl) (by kernel_rfl) (by kernel_rfl) (fun _ _ _ h => h) rfl rfl hq0 (fun w' hw => by obtain ⟨m0, m1, m2⟩ := hw; go_simp <;> first | omega | kernel_rfl | decide) ?_
          simp only [Act.put, List.setIfInBounds_toArray, List.set_cons_zero, List.set_cons_succ]
          refine wpAnyE_take (i := 2) 45 (.pointer (some ⟨X, 2, none⟩)) (by kernel_rfl) rfl (by kernel_rfl) (by kernel_rfl) (by kernel_rfl) (fun _ _ _ h => h) rfl rfl hq0 (fun w' hw => by obtain ⟨m0, m1, m2⟩ := hw; go_simp <;> first | omega | kernel_rfl | decide) ?_
          simp only [Act.put, List.setIfInBounds_toArray, List.set_cons_zero, List.set_cons_succ]
          refine wpAnyE_take (i := 3) 46 (.int .i64 (nx + d3)) (by kernel_rfl) rfl (by kernel_rfl) (by kernel_rfl) (by kernel_rfl) (fun _ _ _ h => h) rfl rfl hq0 (fun w' hw => by obtain ⟨m0, m1, m2⟩ := hw; go_simp <;> first | omega | kernel_rfl | decide) ?_
          simp only [Act.put, List.setIfInBounds_toArray, List.set_cons_zero, List.set_cons_succ]
          refine wpAnyE_take (i := 4) 47 (.int .i64 (nx + d3 - 1)) (by kernel_rfl) rfl (by kernel_rfl) (by kernel_rfl) (by kernel_rfl) (fun _ _ _ h => h) rfl rfl hq0 (fun w' hw => by obtain ⟨m0, m1, m2⟩ := hw; go_simp <;> first | omega | kernel_rfl | decide) ?_
          simp only [Act.put, List.setIfInBounds_toArray, List.set_cons_zero, List.set_cons_succ]
          refine wpAnyE_take (i := 5) 48 (.pointer (some ⟨g, 0, none⟩)) (by kernel_rfl) rfl (by kernel_rfl) (by kernel_rfl) (by kernel_rfl) (fun _ _ _ h => h) rfl rfl hq0 (fun w' hw => by obtain ⟨m0, m1, m2⟩ := hw; go_simp <;> first | omega | kernel_rfl | decide) ?_
          simp only [Act.put, List.setIfInBounds_toArray, List.set_cons_zero, List.set_cons_succ]
          refine wpAnyE_take (i := 6) 49 (.pointer (some ⟨X, 0, none⟩)) (by kernel_rfl) rfl (by kernel_rfl) (by kernel_rfl) (by kernel_rfl) (fun _ _ _ h => h) rfl rfl hq0 (fun w' hw => by obtain ⟨m0, m1, m2⟩ := hw; go_simp <;> first | omega | kernel_rfl | decide) ?_
          simp only [Act.put, List.setIfInBounds_toArray, List.set_cons_zero, List.set_cons_succ]
          refine wpAnyE_take (i := 7) 50 (.int .i64 B) (by kernel_rfl) rfl (by kernel_rfl) (by kernel_rfl) (by kernel_rfl) (fun _ _ _ h => h) rfl rfl hq0 (fun w' hw => by obtain ⟨m0, m1, m2⟩ := hw; go_simp <;> first | omega | kernel_rfl | decide) ?_
          simp only [Act.put, List.setIfInBounds_toArray, List.set_cons_zero, List.set_cons_succ]
          refine wpAnyE_take (i := 8) 51 (.int .i64 (B - 2)) (by kernel_rfl) rfl (by kernel_rfl) (by kernel_rfl) (by kernel_rfl) (fun _ _ _ h => h) rfl rfl hq0 (fun w' hw => by obtain ⟨m0, m1, m2⟩ := hw; go_simp <;> first | omega | kernel_rfl | decide) ?_
          simp only [Act.put, List.setIfInBounds_toArray, List.set_cons_zero, List.set_cons_succ]
          have hv5 := nxV_in zs (nxS zs p1) (n := B - 2) (by omega) (by omega)
          refine wpAnyE_one (i := 9) (by kernel_rfl) rfl rfl (fun K2 hK2 => ?_)
          go_simp
          refine (l1Next_x base g a c zs (nxS zs p1) (B - 2) (by omega) (by omega) Wd.drew (HDd.out.src.heap rfl)).mono ?_
          rintro e we ⟨rfl, hse, hfe⟩
          have hDe := (HDd.out.call (W' := Wd.drew) (HDd.out.src.heap rfl) ((Frm.refl _ _).drew)).call hse hfe
          generalize nxV zs (nxS zs p1) (B - 2) = b5 at *
          have wb5 : IntKind.i64.wrap (2 + b5) = 2 + b5 := IntWalk.i64_in _ ⟨by omega, by omega⟩
          have hqe : (fun w' : World => w'.cell? ⟨X, 0, none⟩ = some (.int .i64 B) ∧ w'.cell? ⟨X, 2, none⟩ = some (.int .i64 (nx + d3)) ∧ w'.cell? ⟨X, 4, none⟩ = some (.slice va k vc)) we := ⟨hDe.cells.1, hDe.cells.2.2.1, hDe.cells.2.2.2.2.1⟩
          refine hK2 _ _ (fun _ => hqe) ?_
          clear hK2 K2
          try simp only [Act.put, List.setIfInBounds_toArray, List.set_cons_zero, List.set_cons_succ]
          refine wpAnyE_take (i := 10) 53 (.int .i64 (2 + b5)) (by kernel_rfl) rfl (by kernel_rfl) (by kernel_rfl) (by kernel_rfl) (fun _ _ _ h => h) rfl rfl hqe (fun w' hw => by obtain ⟨m0, m1, m2⟩ := hw; go_simp <;> first | omega | kernel_rfl | decide) ?_
          simp only [Act.put, List.setIfInBounds_toArray, List.set_cons_zero, List.set_cons_succ]
          refine wpAnyE_take (i := 11) 54 (.agg #[.int .i64 (nx + d3 - 1), .int .i64 (2 + b5)]) (by kernel_rfl) rfl (by kernel_rfl) (by kernel_rfl) (by kernel_rfl) (fun _ _ _ h => h) rfl rfl hqe (fun w' hw => by obtain ⟨m0, m1, m2⟩ := hw; go_simp <;> first | omega | kernel_rfl | decide) ?_
          simp only [Act.put, List.setIfInBounds_toArray, List.set_cons_zero, List.set_cons_succ]
          refine wpAnyE_one (i := 12) (by kernel_rfl) rfl rfl (fun K2 hK2 => ?_)
          go_simp
          obtain ⟨Wf, HWf⟩ : ∃ Wf, Hid (Wf = (we.alloc (.cells #[.int .i64 (nx + d3 - 1), .int .i64 (2 + b5)] 46))) := ⟨_, rfl⟩
          have hDf : Du w base g a c zs X B G (nx + d3) T (.slice va k vc) rs (nxS zs (nxS zs p1)) Wf := by rw [HWf.out]; exact hDe.below (belowA _ _)
          have hnw : Wf.heap[we.heap.size]? = some (.cells #[.int .i64 (nx + d3 - 1), .int .i64 (2 + b5)] 46 (0, 0)) := by rw [HWf.out]; exact heap_alloc_new _ _
          rw [← HWf.out]
          clear HWf
          have hqf : (fun w' : World => w'.cell? ⟨X, 0, none⟩ = some (.int .i64 B) ∧ w'.cell? ⟨X, 2, none⟩ = some (.int .i64 (nx + d3)) ∧ w'.cell? ⟨X, 4, none⟩ = some (.slice va k vc)) Wf := ⟨hDf.cells.1, hDf.cells.2.2.1, hDf.cells.2.2.2.2.1⟩
          refine hK2 _ _ (fun _ => hqf) ?_
          clear hK2 K2
          refine wpAnyE_one (i := 13) (by kernel_rfl) rfl rfl (fun K2 hK2 => ?_)
          have hlb : X + 1 ≤ Wf.heap.size := (Array.getElem?_eq_some_iff.1 hDf.box).1
          have hownf : Wf.ownsRow (X + 1) 46 2 (.slice va k vc) k (rs.flatMap flat2) := by have q := hDf.own; rw [hkk] at q; exact q
          refine wp_appendT _ _ 39 46 _ 2 16 Tryz.underlying39 infoRoot rfl (by decide) rfl (base := X + 1) hownf rfl ⟨we.heap.size, 0, none⟩ 1 1 rfl [.int .i64 (nx + d3 - 1), .int .i64 (2 + b5)] rfl ?_ (fun u hm => List.all_eq_true.1 (show ([.int .i64 (nx + d3 - 1), .int .i64 (2 + b5)] : List Value).all (·.oneCell') = true from rfl) u hm) (by omega) (by omega) hlb ?_
          · intro j u hj
            rw [Addr.add_mid, Nat.zero_add]
            simpa [World.cell?, hnw] using hj
          intro v' w8 hown8 hns8 hbl8
          obtain ⟨ya, yc, rfl, hyf⟩ := owns_form hown8
          have hown9 : w8.ownsRow (X + 1) 46 2 (.slice ya (k + 1) yc) (k + 1) ((rs ++ [(nx + d3 - 1, 2 + b5)]).flatMap flat2) := by rw [flat_snoc]; exact hown8
          have HOWN9 : Hid _ := hown9
          clear hown8 hown9
          show K2 (Act.put _ (some 56) _) w8
          have hX8 := hns8.cells hDf.box (by decide)
          have hr8 := hns8.cells hDf.res (by decide)
          have hXX := hDf.hX
          have hlo := hDf.src.lo
          have hf8 : Frm (fun b => X + 1 ≤ b) Wf w8 := ⟨hbl8.os, hbl8.tape, hbl8.output, hbl8.size, fun i _ hn => hbl8.block i (by omega)⟩
          have hs8 : SrcX base g a c zs (nxS zs (nxS zs p1)) w8 := hDf.src.frm hf8 (by omega) (fun b hb => by omega)
          have hq8 : (fun w' : World => w'.cell? ⟨X, 0, none⟩ = some (.int .i64 B) ∧ w'.cell? ⟨X, 2, none⟩ = some (.int .i64 (nx + d3)) ∧ w'.cell? ⟨X, 4, none⟩ = some (.slice va k vc)) w8 := ⟨(cell_of_row w8 X 0 _ _ _ hX8).trans rfl, (cell_of_row w8 X 2 _ _ _ hX8).trans rfl, (cell_of_row w8 X 4 _ _ _ hX8).trans rfl⟩
          refine hK2 _ _ (fun _ => hq8) ?_
          clear hK2 K2
          simp only [Act.put, List.setIfInBounds_toArray, List.set_cons_zero, List.set_cons_succ]
          refine wpAnyE_take (i := 14) 57 (.pointer (some ⟨X, 4, none⟩)) (by kernel_rfl) rfl (by kernel_rfl) (by kernel_rfl) (by kernel_rfl) (fun _ _ _ h => h) rfl rfl hq8 (fun w' hw => by obtain ⟨m0, m1, m2⟩ := hw; go_simp) ?_
          simp only [Act.put, List.setIfInBounds_toArray, List.set_cons_zero, List.set_cons_succ]
          have y4c : w8.cell? ⟨X, 4, none⟩ = some (.slice va k vc) := hq8.2.2
          have yfc : w8.frozen? ⟨X, 4, none⟩ = false := frozen_of_row w8 X _ _ _ hX8
          refine wpAnyE_one (i := 15) (by kernel_rfl) rfl rfl (fun K2 hK2 => ?_)
          go_simp
          refine hK2 _ _ (fun hne => absurd rfl hne) ?_
          clear hK2 K2
          refine wpAnyE_done (by kernel_rfl) ?_ _
          have hX9 : (w8.setCell ⟨X, 4, none⟩ (.slice ya (k + 1) yc)).heap[X]? = some (.cells #[.int .i64 B, .int .i64 G, .int .i64 (nx + d3), .int .i64 T, .slice ya (k + 1) yc] 41 (0, 0)) := by simpa using heap_setCell_same w8 X 4 _ _ (.slice ya (k + 1) yc) hX8
          have HD9 : Hid (Du w base g a c zs X B G (nx + d3) T (.slice ya (k + 1) yc) (rs ++ [(nx + d3 - 1, 2 + b5)]) (nxS zs (nxS zs p1)) (w8.setCell ⟨X, 4, none⟩ (.slice ya (k + 1) yc))) := by
            refine ⟨(Below.heap_setCell _ ⟨X, 4, none⟩ _ _ (by show w.heap.size ≠ X; omega)).trans hr8, hX9, ?_, hXX, hs8.frm (S := fun b => b = X) ⟨rfl, rfl, rfl, by simp [World.setCell], fun k _ hn => Below.heap_setCell _ _ _ _ hn⟩ (by show ¬ g = X; omega) (fun b hb => by omega), ?_, hgl⟩
            · rw [List.length_append, hkk]
              exact owns_set HOWN9.out _ (by show X < X + 1; omega) _
            · have hfw := hDf.frm
              refine ⟨hbl8.os.trans hfw.os, hbl8.tape.trans hfw.tape, hbl8.output.trans hfw.output, Nat.le_trans hfw.size (Nat.le_trans hbl8.size (by simp [World.setCell])), fun i hi hn => ?_⟩
              exact (Below.heap_setCell _ ⟨X, 4, none⟩ _ _ (by show i ≠ X; omega)).trans ((hbl8.block i (by omega)).trans (hfw.block i hi hn))
          clear u0 u1 u2 u3 u4 uf hq0 hqe hqf hq8 y4c yfc hDe hDf hnw hX8 hr8 hs8 hX9 HOWN9 HDd hse hfe hownf
          generalize w8.setCell ⟨X, 4, none⟩ (.slice ya (k + 1) yc) = Wg at *
          obtain ⟨u0, u1, u2, u3, u4, uf⟩ := HD9.out.cells
          have uf2 := uf 2
          have wn3 : IntKind.i64.wrap (nx + d3 + 1) = nx + d3 + 1 := IntWalk.i64_in _ ⟨by omega, by omega⟩
          have HDh : Hid _ := HD9.out.set2 (nx + d3 + 1)
          clear uf
          go_wp2
          go_roundw
          case rel => exact ⟨rs ++ [(nx + d3 - 1, 2 + b5)], _, nx + d3 + 1, _, m, by rw [List.length_append, hkk]; show k + 1 + m = n; omega, by rw [List.length_append, hkk]; first | rfl | go_num, HRc.out, HDh.out, by rw [List.length_append, hkk]; exact ⟨by omega, by show nx + d3 + 1 ≤ 1 + 3 * ((k + 1 : Nat) : Int); omega⟩⟩
          case measure => simp [intOf]; omega
end Go.Proofs.YtfbjagjgofdheaaGreatDoor
