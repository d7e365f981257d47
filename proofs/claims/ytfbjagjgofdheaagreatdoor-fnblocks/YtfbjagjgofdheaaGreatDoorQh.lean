import Derived.Test.YtfbjagjgofdheaaGreatDoorQg
import Derived.Test.YtfbjagjgofdheaaGreatDoorLg
import Derived.Test.YtfbjagjgofdheaaGreatDoorHb
namespace Go.Proofs.YtfbjagjgofdheaaGreatDoor
open Go.RowKit
set_option linter.unusedVariables false

set_option maxRecDepth 100000 in
set_option maxHeartbeats 4000000 in
theorem l2DrawTable_x (base g : Nat) (a : Option Addr) (c : Nat) (zs : List Int) (p : St3) (w : World) (hs : SrcX base g a c zs p w) :
    Calls Tryz.prog 33 #[.pointer (some ⟨g, 0, none⟩)] w fun e w' => (∃ a c, e = .returned (.agg #[.int .i64 (dtabN zs p), .slice a (drQ zs p).1.length c]) ∧ RRead w' (.slice a (drQ zs p).1.length c) (drQ zs p).1) ∧ SrcX base g a c zs (dtabS zs p) w' ∧ Frm (· = g) w w' := by
  have hgl := hs.lt
  have HN : Hid (dtabN zs p = if nxV zs (drQ zs p).2 2 = 0 then 2 + nxV zs (nxS zs (drQ zs p).2) 510 else 0) := rfl
  have HS : Hid (dtabS zs p = if nxV zs (drQ zs p).2 2 = 0 then nxS zs (nxS zs (drQ zs p).2) else nxS zs (drQ zs p).2) := rfl
  obtain ⟨rs, HRS⟩ : ∃ rs, Hid ((drQ zs p).1 = rs) := ⟨_, rfl⟩
  obtain ⟨pS, HPS⟩ : ∃ pS, Hid ((drQ zs p).2 = pS) := ⟨_, rfl⟩
  obtain ⟨N, HNN⟩ : ∃ N, Hid (dtabN zs p = N) := ⟨_, rfl⟩
  obtain ⟨S, HSS⟩ : ∃ S, Hid (dtabS zs p = S) := ⟨_, rfl⟩
  have HDR : Hid _ := fun w hs => l2DrawRuns_x base g a c zs p w hs
  rw [HNN.out, HPS.out] at HN
  rw [HSS.out, HPS.out] at HS
  rw [HRS.out, HPS.out] at HDR
  rw [HNN.out, HSS.out, HRS.out]
  clear HNN HSS HRS HPS
  have hb0 := belowA w (.cells #[.int .i64 0, .slice none 0 0] 34)
  have hx : (w.alloc (.cells #[.int .i64 0, .slice none 0 0] 34)).heap[w.heap.size]? = some (.cells #[.int .i64 0, .slice none 0 0] 34 (0, 0)) := heap_alloc_new _ _
  have hs0 := hs.below hb0
  have hf0 : Frm (· = g) w (w.alloc (.cells #[.int .i64 0, .slice none 0 0] 34)) := Frm.of_below hb0
  clear hb0 hs
  go_enter Tryz.func33, Tryz.ntmps33
  go_wp2_with fail
  refine (HDR.out _ hs0).mono ?_
  rintro e w1 ⟨⟨va, vc, rfl, hr1, hvf⟩, hs1, hf1⟩
  have hx1 := (hf1.block _ (Array.getElem?_eq_some_iff.1 hx).1 (by show ¬ w.heap.size = g; omega)).trans hx
  have hf1' := hf0.trans hf1
  have HVF : Hid (Fsh (w.heap.size + 1) va) := fun q hq => by have := hvf q hq; simpa using this
  have HVX0 : Hid (∀ q, va = some q → 0 < rs.length → q.block < w1.heap.size) := fun q hq h0 => by
    obtain ⟨_, _, he, hc⟩ := hr1
    simp only [Value.slice.injEq, true_and] at he
    obtain ⟨rfl, rfl⟩ := he
    obtain ⟨b, off, hb, hcell⟩ := hc h0
    rw [hq] at hb
    cases hb
    exact World.block_lt_of_cell? _ _ (hcell 0 h0).1
  clear hs0 hf0 hx hf1 HDR hvf
  have hb2 := belowA w1 (.cells #[.int .i64 0, .slice va rs.length vc] 34)
  have hx2 := (hb2.block _ (Array.getElem?_eq_some_iff.1 hx1).1).trans hx1
  have hX2 := heap_alloc_new w1 (.cells #[.int .i64 0, .slice va rs.length vc] 34)
  have hs2 := hs1.below hb2
  have hf2 := hf1'.trans (Frm.of_below (S := (· = g)) hb2)
  have hr2 := hr1.below hb2
  have hwX : w.heap.size < w1.heap.size := (Array.getElem?_eq_some_iff.1 hx1).1
  obtain ⟨X, HXX⟩ : ∃ X, Hid (w1.heap.size = X) := ⟨_, rfl⟩
  rw [HXX.out] at hX2 hwX HVX0
  clear hx1 hs1 hf1' hb2 hr1
  go_wp2_with fail
  rw [HXX.out]
  generalize w1.alloc (.cells #[.int .i64 0, .slice va rs.length vc] 34) = W2 at *
  refine (l1Next_x base g a c zs _ 2 (by decide) (by decide) _ hs2).mono ?_
  rintro e w3 ⟨rfl, hs3, hf3⟩
  have hx3 := (hf3.block _ (Array.getElem?_eq_some_iff.1 hx2).1 (by show ¬ w.heap.size = g; omega)).trans hx2
  have hX3 := (hf3.block _ (Array.getElem?_eq_some_iff.1 hX2).1 (by show ¬ X = g; omega)).trans hX2
  have hr3 : RRead w3 (.slice va rs.length vc) rs := by
    obtain ⟨_, _, he, hc⟩ := hr2
    simp only [Value.slice.injEq, true_and] at he
    obtain ⟨rfl, rfl⟩ := he
    refine ⟨_, _, rfl, fun hp => ?_⟩
    obtain ⟨b, off, rfl, hcell⟩ := hc hp
    have hbb := HVF.out _ rfl
    refine ⟨b, off, rfl, fun i hi => ?_⟩
    obtain ⟨g1, g2, g3⟩ := hcell i hi
    have e := hf3.block b (World.block_lt_of_cell? _ _ g1) (by show ¬ b = g; simp only at hbb; omega)
    exact ⟨(World.cell?_of_block (a := ⟨b, off + i * 3, none⟩) e).trans g1, (World.cell?_of_block (a := ⟨b, off + i * 3 + 1, none⟩) e).trans g2, (World.cell?_of_block (a := ⟨b, off + i * 3 + 2, none⟩) e).trans g3⟩
  have hf3' := hf2.trans hf3
  clear hx2 hX2 hs2 hf2 hf3 hr2
  generalize nxV zs pS 2 = y2 at *
  have HEND : Hid (∀ (W : World) (nx : Int) (px : St3), W.heap[w.heap.size]? = some (.cells #[.int .i64 0, .slice none 0 0] 34 (0, 0)) → RRead W (.slice va rs.length vc) rs → SrcX base g a c zs px W → Frm (· = g) w W → (RRead ((W.setCell ⟨w.heap.size, 0, none⟩ (.int .i64 nx)).setCell ⟨w.heap.size, 1, none⟩ (.slice va rs.length vc)) (.slice va rs.length vc) rs ∧ SrcX base g a c zs px ((W.setCell ⟨w.heap.size, 0, none⟩ (.int .i64 nx)).setCell ⟨w.heap.size, 1, none⟩ (.slice va rs.length vc)) ∧ Frm (· = g) w ((W.setCell ⟨w.heap.size, 0, none⟩ (.int .i64 nx)).setCell ⟨w.heap.size, 1, none⟩ (.slice va rs.length vc)))) := fun W nx px h1 h2 h3 h4 => by
    have hu : Upd w.heap.size (w.heap.size + 1) W ((W.setCell ⟨w.heap.size, 0, none⟩ (.int .i64 nx)).setCell ⟨w.heap.size, 1, none⟩ (.slice va rs.length vc)) := ((Upd.refl _ _ _).setCell (p := ⟨w.heap.size, 0, none⟩) (Nat.le_refl _) (Nat.lt_succ_self _) _).setCell (p := ⟨w.heap.size, 1, none⟩) (Nat.le_refl _) (Nat.lt_succ_self _) _
    have hfu : Frm (fun b => b = w.heap.size) W ((W.setCell ⟨w.heap.size, 0, none⟩ (.int .i64 nx)).setCell ⟨w.heap.size, 1, none⟩ (.slice va rs.length vc)) := ⟨hu.os, hu.tape, hu.output, hu.size, fun i hi hn => hu.block i hi (by omega)⟩
    have hlo := h3.lo
    refine ⟨?_, h3.frm hfu (by show ¬ g = w.heap.size; omega) (fun b hb => by omega), ?_⟩
    · obtain ⟨_, _, he, hc⟩ := h2
      simp only [Value.slice.injEq, true_and] at he
      obtain ⟨rfl, rfl⟩ := he
      refine ⟨_, _, rfl, fun hp => ?_⟩
      obtain ⟨b, off, rfl, hcell⟩ := hc hp
      have hbb := HVF.out _ rfl
      refine ⟨b, off, rfl, fun i hi => ?_⟩
      obtain ⟨g1, g2, g3⟩ := hcell i hi
      have e := hu.block b (World.block_lt_of_cell? _ _ g1) (.inr hbb)
      exact ⟨(World.cell?_of_block (a := ⟨b, off + i * 3, none⟩) e).trans g1, (World.cell?_of_block (a := ⟨b, off + i * 3 + 1, none⟩) e).trans g2, (World.cell?_of_block (a := ⟨b, off + i * 3 + 2, none⟩) e).trans g3⟩
    · exact ⟨hu.os.trans h4.os, hu.tape.trans h4.tape, hu.output.trans h4.output, Nat.le_trans h4.size hu.size, fun i hi hn => (hu.block i (by have := h4.size; omega) (.inl hi)).trans (h4.block i hi hn)⟩
  by_cases h0 : y2 = 0
  · have h0b : (y2 == 0) = true := by simpa using h0
    rw [if_pos h0] at HN HS
    have hvi := nxV_in zs (nxS zs pS) (n := 510) (by decide) (by decide)
    clear h0
    go_wp2_with fail
    refine (l1Next_x base g a c zs _ 510 (by decide) (by decide) _ hs3).mono ?_
    rintro e w4 ⟨rfl, hs4, hf4⟩
    have hx4 := (hf4.block _ (Array.getElem?_eq_some_iff.1 hx3).1 (by show ¬ w.heap.size = g; omega)).trans hx3
    have hX4 := (hf4.block _ (Array.getElem?_eq_some_iff.1 hX3).1 (by show ¬ X = g; omega)).trans hX3
    have hr4 : RRead w4 (.slice va rs.length vc) rs := by
      obtain ⟨_, _, he, hc⟩ := hr3
      simp only [Value.slice.injEq, true_and] at he
      obtain ⟨rfl, rfl⟩ := he
      refine ⟨_, _, rfl, fun hp => ?_⟩
      obtain ⟨b, off, rfl, hcell⟩ := hc hp
      have hbb := HVF.out _ rfl
      refine ⟨b, off, rfl, fun i hi => ?_⟩
      obtain ⟨g1, g2, g3⟩ := hcell i hi
      have e := hf4.block b (World.block_lt_of_cell? _ _ g1) (by show ¬ b = g; simp only at hbb; omega)
      exact ⟨(World.cell?_of_block (a := ⟨b, off + i * 3, none⟩) e).trans g1, (World.cell?_of_block (a := ⟨b, off + i * 3 + 1, none⟩) e).trans g2, (World.cell?_of_block (a := ⟨b, off + i * 3 + 2, none⟩) e).trans g3⟩
    have hf4' := hf3'.trans hf4
    rw [← HS.out] at hs4
    generalize nxV zs (nxS zs pS) 510 = y5 at *
    have wN : IntKind.i64.wrap (2 + y5) = N := by rw [HN.out]; exact IntWalk.i64_in _ ⟨by omega, by omega⟩
    have x40 : w4.cell? ⟨X, 0, none⟩ = some (.int .i64 0) := (cell_of_row w4 X 0 _ _ _ hX4).trans rfl
    have xf0 : w4.frozen? ⟨X, 0, none⟩ = false := frozen_of_row w4 X _ _ _ hX4
    have hX5 : (w4.setCell ⟨X, 0, none⟩ (.int .i64 N)).heap[X]? = some (.cells #[.int .i64 N, .slice va rs.length vc] 34 (0, 0)) := by simpa using heap_setCell_same w4 X 0 _ _ (.int .i64 N) hX4
    have hx5 : (w4.setCell ⟨X, 0, none⟩ (.int .i64 N)).heap[w.heap.size]? = some (.cells #[.int .i64 0, .slice none 0 0] 34 (0, 0)) := (Below.heap_setCell _ ⟨X, 0, none⟩ _ _ (by show w.heap.size ≠ X; omega)).trans hx4
    have hf5 : Frm (fun b => b = X) w4 (w4.setCell ⟨X, 0, none⟩ (.int .i64 N)) := ⟨rfl, rfl, rfl, by simp [World.setCell], fun k _ hn => Below.heap_setCell _ _ _ _ hn⟩
    have hs5 : SrcX base g a c zs S (w4.setCell ⟨X, 0, none⟩ (.int .i64 N)) := hs4.frm hf5 (by show ¬ g = X; omega) (fun b hb => by have := hs4.lo; omega)
    have hF5 : Frm (· = g) w (w4.setCell ⟨X, 0, none⟩ (.int .i64 N)) := ⟨hf5.os.trans hf4'.os, hf5.tape.trans hf4'.tape, hf5.output.trans hf4'.output, Nat.le_trans hf4'.size hf5.size, fun i hi hn => (hf5.block i (by have := hf4'.size; omega) (by show ¬ i = X; omega)).trans (hf4'.block i hi hn)⟩
    have HX5 : Hid _ := hX5
    have HX5' : Hid _ := hx5
    have HS5 : Hid _ := hs5
    have HF5 : Hid _ := hF5
    clear hX5 hx5 hs5 hF5 hf5
    go_upto_region 4 with fail
    have hr5 : RRead (w4.setCell ⟨X, 0, none⟩ (.int .i64 N)) (.slice va rs.length vc) rs := by
      obtain ⟨_, _, he, hc⟩ := hr4
      simp only [Value.slice.injEq, true_and] at he
      obtain ⟨rfl, rfl⟩ := he
      refine ⟨_, _, rfl, fun hp => ?_⟩
      obtain ⟨b, off, rfl, hcell⟩ := hc hp
      have hne : b ≠ X := by
        have q := HVX0.out _ rfl hp
        simp only at q
        omega
      refine ⟨b, off, rfl, fun i hi => ?_⟩
      obtain ⟨g1, g2, g3⟩ := hcell i hi
      exact ⟨(set_far w4 X b 0 _ _ hne).trans g1, (set_far w4 X b 0 _ _ hne).trans g2, (set_far w4 X b 0 _ _ hne).trans g3⟩
    have HE : Hid _ := HEND.out _ N S HX5'.out hr5 HS5.out HF5.out
    have x50 := (cell_of_row _ X 0 _ _ _ HX5.out).trans (show (#[.int .i64 N, .slice va rs.length vc] : Array Value)[0]? = some (.int .i64 N) from rfl)
    have x51 := (cell_of_row _ X 1 _ _ _ HX5.out).trans (show (#[.int .i64 N, .slice va rs.length vc] : Array Value)[1]? = some (.slice va rs.length vc) from rfl)
    obtain ⟨r0, r1, r2, r3⟩ := row2 HX5'.out
    clear x40 xf0 hr4 hs4 hf4 hf4' hX4 hx4 HX5 HX5' HS5 HF5 hr5 HEND
    generalize w4.setCell ⟨X, 0, none⟩ (.int .i64 N) = W6 at *
    go_wp2
    exact bodyPost_ret (v := .agg #[.int .i64 N, .slice va rs.length vc]) (by simp [results, Tryz.results33, go_sem, r0, r1]) rfl ⟨⟨va, vc, rfl, HE.out.1⟩, HE.out.2⟩
  · have h0b : (y2 == 0) = false := by simpa using h0
    rw [if_neg h0] at HN HS
    rw [← HS.out] at hs3
    have hN0 : N = 0 := HN.out
    subst hN0
    have HE : Hid _ := HEND.out w3 0 S hx3 hr3 hs3 hf3'
    obtain ⟨r0, r1, r2, r3⟩ := row2 hx3
    have x30 : w3.cell? ⟨X, 0, none⟩ = some (.int .i64 0) := (cell_of_row w3 X 0 _ _ _ hX3).trans rfl
    have x31 : w3.cell? ⟨X, 1, none⟩ = some (.slice va rs.length vc) := (cell_of_row w3 X 1 _ _ _ hX3).trans rfl
    clear h0 hx3 hr3 hs3 hf3' hX3 HEND
    go_wp2
    exact bodyPost_ret (v := .agg #[.int .i64 0, .slice va rs.length vc]) (by simp [results, Tryz.results33, go_sem, r0, r1]) rfl ⟨⟨va, vc, rfl, HE.out.1⟩, HE.out.2⟩
end Go.Proofs.YtfbjagjgofdheaaGreatDoor

namespace Go.Proofs.YtfbjagjgofdheaaGreatDoor
open Go.RowKit
set_option linter.unusedVariables false

/-- l2DrawSuper: the numbers in their turn -/
def dsB (zs : List Int) (p : Nat × Int) : Int := dbV zs p
def ds1 (zs : List Int) (p : Nat × Int) : Nat × Int := nxS zs (dbS zs p)
def dsG (zs : List Int) (p : Nat × Int) : Int := if nxV zs (ds1 zs p) 8 = 0 then 1099511627776 - nxV zs (nxS zs (ds1 zs p)) 2 else 1 + nxV zs (dbS zs p) 300
def ds2 (zs : List Int) (p : Nat × Int) : Nat × Int := if nxV zs (ds1 zs p) 8 = 0 then nxS zs (nxS zs (ds1 zs p)) else nxS zs (ds1 zs p)
def dsT (zs : List Int) (p : Nat × Int) : Int := 2 + nxV zs (ds2 zs p) (dsB zs p - 2)
def ds3 (zs : List Int) (p : Nat × Int) : Nat × Int := nxS zs (ds2 zs p)
def dsN (zs : List Int) (p : Nat × Int) : Int := if nxV zs (nxS zs (ds3 zs p)) 6 = 0 then 16 else 1 + nxV zs (ds3 zs p) 4
def ds4 (zs : List Int) (p : Nat × Int) : Nat × Int := nxS zs (nxS zs (ds3 zs p))
/-- the roots: m more behind rs, the next tree's number nx -/
def dsL (zs : List Int) (B : Int) : List R2 → Int → Nat × Int → Nat → List R2 × Int × (Nat × Int)
  | rs, nx, p, 0 => (rs, nx, p)
  | rs, nx, p, m + 1 => dsL zs B (rs ++ [(nx + nxV zs p 3 - 1, 2 + nxV zs (nxS zs p) (B - 2))]) (nx + nxV zs p 3 + 1) (nxS zs (nxS zs p)) m
def dsR (zs : List Int) (p : Nat × Int) : List R2 × Int × (Nat × Int) := dsL zs (dsB zs p) [] 1 (ds4 zs p) (dsN zs p).toNat
def dsX (zs : List Int) (p : Nat × Int) : Int := if nxV zs (dsR zs p).2.2 8 = 0 then 65535 else (dsR zs p).2.1
def dsS (zs : List Int) (p : Nat × Int) : Nat × Int := nxS zs (dsR zs p).2.2
theorem dsN_in (zs : List Int) (p : Nat × Int) : 1 ≤ dsN zs p ∧ dsN zs p ≤ 16 := by
  have h := nxV_in zs (ds3 zs p) (n := 4) (by decide) (by decide)
  unfold dsN
  split <;> omega
theorem dsG_in (zs : List Int) (p : Nat × Int) : 1 ≤ dsG zs p ∧ dsG zs p ≤ 1099511627776 := by
  have h1 := nxV_in zs (nxS zs (ds1 zs p)) (n := 2) (by decide) (by decide)
  have h2 := nxV_in zs (dbS zs p) (n := 300) (by decide) (by decide)
  unfold dsG
  split <;> omega
theorem dsB_in (zs : List Int) (p : Nat × Int) : 8 ≤ dsB zs p ∧ dsB zs p ≤ 512 := dbV_in zs p
theorem dsT_in (zs : List Int) (p : Nat × Int) : 2 ≤ dsT zs p ∧ dsT zs p ≤ dsB zs p - 1 := by
  have hb := dsB_in zs p
  have h := nxV_in zs (ds2 zs p) (n := dsB zs p - 2) (by omega) (by omega)
  unfold dsT
  omega
/-- the roots so far may stand -/
def dsOK (B : Int) (rs : List R2) (nx : Int) : Prop := (1 ≤ nx ∧ nx ≤ 1 + 3 * rs.length) ∧ (0 < rs.length → (rs.getD (rs.length - 1) (0, 0)).1 + 2 ≤ nx) ∧ ∀ i, i < rs.length → rtOK B nx rs i
theorem t_left {rs : List R2} {e : R2} {i : Nat} (h : i < rs.length) : (rs ++ [e]).getD i (0, 0) = rs.getD i (0, 0) := by
  simp only [List.getD_eq_getElem?_getD]; rw [List.getElem?_append_left h]
theorem t_last {rs : List R2} {e : R2} : (rs ++ [e]).getD rs.length (0, 0) = e := by
  simp
theorem dsOK_snoc {B : Int} {rs : List R2} {nx d b : Int} (h : dsOK B rs nx) (hd : 0 ≤ d ∧ d < 3) (hb : 2 ≤ b ∧ b ≤ B - 1) : dsOK B (rs ++ [(nx + d - 1, b)]) (nx + d + 1) := by
  obtain ⟨⟨h1, h2⟩, h4, h3⟩ := h
  refine ⟨⟨by omega, by rw [List.length_append]; show nx + d + 1 ≤ 1 + 3 * ((rs.length + 1 : Nat) : Int); omega⟩, fun _ => ?_, fun i hi => ?_⟩
  · rw [List.length_append, show rs.length + [(nx + d - 1, b)].length - 1 = rs.length by simp, t_last]; show nx + d - 1 + 2 ≤ nx + d + 1; omega
  rw [List.length_append] at hi
  by_cases hlt : i < rs.length
  · obtain ⟨q1, q2, q3⟩ := h3 i hlt
    refine ⟨by rw [t_left hlt]; omega, by rw [t_left hlt]; exact q2, fun h0 => ?_⟩
    rw [t_left hlt, t_left (by omega)]; exact q3 h0
  · obtain rfl : i = rs.length := by simp at hi; omega
    refine ⟨by rw [t_last]; show 0 ≤ nx + d - 1 ∧ nx + d - 1 ≤ nx + d + 1 - 1; omega, by rw [t_last]; exact hb, fun h0 => ?_⟩
    rw [t_last, t_left (by omega)]
    have q := h4 h0
    show (rs.getD (rs.length - 1) (0, 0)).1 < nx + d - 1
    omega
theorem dsL_ok {zs : List Int} {B : Int} (hB : 8 ≤ B ∧ B ≤ 512) : ∀ (m : Nat) (rs : List R2) (nx : Int) (p : Nat × Int), dsOK B rs nx → dsOK B (dsL zs B rs nx p m).1 (dsL zs B rs nx p m).2.1 ∧ (dsL zs B rs nx p m).1.length = rs.length + m
  | 0, rs, nx, p, h => ⟨h, by simp [dsL]⟩
  | m + 1, rs, nx, p, h => by
    have h1 := nxV_in zs p (n := 3) (by decide) (by decide)
    have h2 := nxV_in zs (nxS zs p) (n := B - 2) (by omega) (by omega)
    have ih := dsL_ok (zs := zs) hB m (rs ++ [(nx + nxV zs p 3 - 1, 2 + nxV zs (nxS zs p) (B - 2))]) (nx + nxV zs p 3 + 1) (nxS zs (nxS zs p)) (dsOK_snoc h h1 (by omega))
    rw [dsL]
    refine ⟨ih.1, ih.2.trans ?_⟩
    simp
    omega
/-- the drawn superblock may be laid down -/
theorem dsV_ok (zs : List Int) (p : Nat × Int) : spOK (dsB zs p) (dsG zs p) (dsX zs p) (dsT zs p) (dsR zs p).1 := by
  have hB := dsB_in zs p
  have hn := dsN_in zs p
  obtain ⟨⟨h1, h2, h3⟩, h4⟩ := dsL_ok (zs := zs) hB (dsN zs p).toNat [] 1 (ds4 zs p) ⟨by simp, fun h => by simp at h, fun i hi => by simp at hi⟩
  have hl : (dsR zs p).1.length = (dsN zs p).toNat := by unfold dsR; rw [h4]; simp
  have e1 : (dsR zs p).2.1 = (dsL zs (dsB zs p) [] 1 (ds4 zs p) (dsN zs p).toNat).2.1 := rfl
  have e2 : (dsR zs p).1 = (dsL zs (dsB zs p) [] 1 (ds4 zs p) (dsN zs p).toNat).1 := rfl
  rw [← e1, ← e2] at h1
  have hx : (dsR zs p).2.1 ≤ dsX zs p ∧ dsX zs p ≤ 65535 ∧ 1 ≤ dsX zs p := by
    unfold dsX
    split <;> omega
  refine ⟨⟨hB, dsG_in zs p, by omega, dsT_in zs p⟩, by omega, fun i hi => ?_⟩
  have q := h3 i (by rw [← e2]; exact hi)
  rw [← e1, ← e2] at q
  exact ⟨⟨q.1.1, by have := q.1.2; omega⟩, q.2⟩
end Go.Proofs.YtfbjagjgofdheaaGreatDoor
