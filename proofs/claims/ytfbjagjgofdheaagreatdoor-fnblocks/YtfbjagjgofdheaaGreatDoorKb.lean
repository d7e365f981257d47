import Derived.Test.YtfbjagjgofdheaaGreatDoorNf
import Derived.Test.YtfbjagjgofdheaaGreatDoorBytes
import Derived.ProofKit
import Derived.OpenShut
import Derived.ShutString
import Derived.ChangeOld
import Derived.Below
namespace Go.Proofs.YtfbjagjgofdheaaGreatDoor
open Go.RowKit
set_option linter.unusedVariables false

theorem assertT (v : Value) (w : World) : (Instr.typeAssert (.iface 82 v) 63 82 true).run Tryz.prog w = .ok (.tuple #[v, .bool true]) w := by kernel_rfl
theorem assertS (v : Value) (w : World) : (Instr.typeAssert (.iface 85 v) 63 85 true).run Tryz.prog w = .ok (.tuple #[v, .bool true]) w := by kernel_rfl
theorem assertL (v : Value) (w : World) : (Instr.typeAssert (.iface 75 v) 63 75 true).run Tryz.prog w = .ok (.tuple #[v, .bool true]) w := by kernel_rfl
theorem assertI (v : Value) (w : World) : (Instr.typeAssert (.iface 76 v) 63 76 true).run Tryz.prog w = .ok (.tuple #[v, .bool true]) w := by kernel_rfl
theorem assertIL (v : Value) (w : World) : (Instr.typeAssert (.iface 76 v) 63 75 true).run Tryz.prog w = .ok (.tuple #[.agg #[.int .i64 0, .int .i64 0, .slice none 0 0], .bool false]) w := by kernel_rfl

theorem RRead.upd {lo hi : Nat} {w w' : World} {a : Option Addr} {n c : Nat} {rs : List R3} (h : RRead w (.slice a n c) rs) (hf : Fsh hi a) (hu : Upd lo hi w w') : RRead w' (.slice a n c) rs := by
  obtain ⟨a', c', he, hc⟩ := h
  simp only [Value.slice.injEq] at he
  obtain ⟨rfl, rfl, rfl⟩ := he
  refine ⟨a, c, rfl, fun hp => ?_⟩
  obtain ⟨b, off, rfl, hcell⟩ := hc hp
  have hb : hi ≤ b := hf _ rfl
  refine ⟨b, off, rfl, fun i hi' => ?_⟩
  obtain ⟨g1, g2, g3⟩ := hcell i hi'
  have e := hu.block b (World.block_lt_of_cell? _ _ g1) (.inr hb)
  exact ⟨(World.cell?_of_block (a := ⟨b, off + i * 3, none⟩) e).trans g1, (World.cell?_of_block (a := ⟨b, off + i * 3 + 1, none⟩) e).trans g2, (World.cell?_of_block (a := ⟨b, off + i * 3 + 2, none⟩) e).trans g3⟩
theorem NRead.upd {lo hi : Nat} {w w' : World} {a : Option Addr} {n c : Nat} {rs : List E3} (h : NRead w (.slice a n c) rs) (hf : Fsh hi a) (hu : Upd lo hi w w') : NRead w' (.slice a n c) rs := by
  obtain ⟨a', c', he, hc⟩ := h
  simp only [Value.slice.injEq] at he
  obtain ⟨rfl, rfl, rfl⟩ := he
  refine ⟨a, c, rfl, fun hp => ?_⟩
  obtain ⟨b, off, rfl, hcell⟩ := hc hp
  have hb : hi ≤ b := hf _ rfl
  refine ⟨b, off, rfl, fun i hi' => ?_⟩
  obtain ⟨g1, g2, g3⟩ := hcell i hi'
  have e := hu.block b (World.block_lt_of_cell? _ _ g1) (.inr hb)
  exact ⟨(World.cell?_of_block (a := ⟨b, off + i * 3, none⟩) e).trans g1, (World.cell?_of_block (a := ⟨b, off + i * 3 + 1, none⟩) e).trans g2, (World.cell?_of_block (a := ⟨b, off + i * 3 + 2, none⟩) e).trans g3⟩
theorem TRead.upd {lo hi : Nat} {w w' : World} {a : Option Addr} {n c : Nat} {rs : List R2} (h : TRead w (.slice a n c) rs) (hf : Fsh hi a) (hu : Upd lo hi w w') : TRead w' (.slice a n c) rs := by
  obtain ⟨a', c', he, hc⟩ := h
  simp only [Value.slice.injEq] at he
  obtain ⟨rfl, rfl, rfl⟩ := he
  refine ⟨a, c, rfl, fun hp => ?_⟩
  obtain ⟨b, off, rfl, hcell⟩ := hc hp
  have hb : hi ≤ b := hf _ rfl
  refine ⟨b, off, rfl, fun i hi' => ?_⟩
  obtain ⟨g1, g2⟩ := hcell i hi'
  have e := hu.block b (World.block_lt_of_cell? _ _ g1) (.inr hb)
  exact ⟨(World.cell?_of_block (a := ⟨b, off + i * 2, none⟩) e).trans g1, (World.cell?_of_block (a := ⟨b, off + i * 2 + 1, none⟩) e).trans g2⟩

set_option maxRecDepth 100000 in
set_option maxHeartbeats 4000000 in
theorem implDecT_ok {nx : Int} {rs : List R3} (h : tbOK nx rs) (b off c : Nat) (w : World) (hv : Bts w (.slice (some ⟨b, off, none⟩) 128 c) (tabL nx rs)) :
    Calls Tryz.prog 12 #[.slice (some ⟨b, off, none⟩) 128 c] w fun e w' => (∃ a c, e = .returned (.tuple #[.agg #[.int .i64 nx, .slice a rs.length c], .int .i64 0]) ∧ RRead w' (.slice a rs.length c) rs) ∧ Below w.heap.size w w' := by
  have hb0 := belowA w (.cells #[.int .i64 0, .slice none 0 0] 34)
  have hx : (w.alloc (.cells #[.int .i64 0, .slice none 0 0] 34)).heap[w.heap.size]? = some (.cells #[.int .i64 0, .slice none 0 0] 34 (0, 0)) := heap_alloc_new _ _
  have HV : Hid (Bts _ _ _) := hv.below hb0
  have HO : Hid (tbOK nx rs) := h
  clear hv h
  go_enter Tryz.func12, Tryz.ntmps12
  go_wp2_with fail
  refine (decodeForm_T HO.out b off c _ HV.out).mono ?_
  rintro e w1 ⟨⟨v, rfl, a, ca, rfl, hr, hf⟩, hb1⟩
  have hf' : Fsh (w.heap.size + 1) a := by simpa using hf
  have HF : Hid (Fsh (w.heap.size + 1) a) := hf'
  have hx1 := (hb1.block _ (Array.getElem?_eq_some_iff.1 hx).1).trans hx
  have hB1 := hb0.trans (hb1.mono hb0.size)
  have hs1 : w.heap.size < w1.heap.size := (Array.getElem?_eq_some_iff.1 hx1).1
  obtain ⟨W2, HW2⟩ : ∃ W2, Hid (w1.alloc (.cells #[.int .i64 3, .int .i64 rs.length, .int .i64 nx, .slice a rs.length ca] 82) = W2) := ⟨_, rfl⟩
  have hby := ((belowA w1 (.cells #[.int .i64 3, .int .i64 rs.length, .int .i64 nx, .slice a rs.length ca] 82)).block _ hs1).trans hx1
  have hbx := heap_alloc_new w1 (.cells #[.int .i64 3, .int .i64 rs.length, .int .i64 nx, .slice a rs.length ca] 82)
  have hB2 := hB1.trans ((belowA w1 (.cells #[.int .i64 3, .int .i64 rs.length, .int .i64 nx, .slice a rs.length ca] 82)).mono hB1.size)
  have hR2 := hr.below (belowA w1 (.cells #[.int .i64 3, .int .i64 rs.length, .int .i64 nx, .slice a rs.length ca] 82))
  rw [HW2.out] at hby hbx hB2 hR2
  have HB2 : Hid (Below w.heap.size w W2) := hB2
  have HR2 : Hid (RRead W2 (.slice a rs.length ca) rs) := hR2
  have hcx : W2.cell? ⟨w1.heap.size, 0, none⟩ = some (.int .i64 3) ∧ W2.cell? ⟨w1.heap.size, 1, none⟩ = some (.int .i64 rs.length) ∧ W2.cell? ⟨w1.heap.size, 2, none⟩ = some (.int .i64 nx) ∧ W2.cell? ⟨w1.heap.size, 3, none⟩ = some (.slice a rs.length ca) := by simp [World.cell?, hbx]
  obtain ⟨p0, p1, p2, p3⟩ := hcx
  have hcy : W2.cell? ⟨w.heap.size, 0, none⟩ = some (.int .i64 0) ∧ W2.cell? ⟨w.heap.size, 1, none⟩ = some (.slice none 0 0) := by simp [World.cell?, hby]
  obtain ⟨q0, q1⟩ := hcy
  have hfy : ∀ i, W2.frozen? ⟨w.heap.size, i, none⟩ = false := fun i => frozen_of_row W2 _ i _ _ hby
  have z0 := hfy 0
  have z1 := hfy 1
  have HST : Hid (RRead ((W2.setCell ⟨w.heap.size, 0, none⟩ (.int .i64 nx)).setCell ⟨w.heap.size, 1, none⟩ (.slice a rs.length ca)) (.slice a rs.length ca) rs ∧ Below w.heap.size w ((W2.setCell ⟨w.heap.size, 0, none⟩ (.int .i64 nx)).setCell ⟨w.heap.size, 1, none⟩ (.slice a rs.length ca))) := by
    have hu : Upd w.heap.size (w.heap.size + 1) W2 ((W2.setCell ⟨w.heap.size, 0, none⟩ (.int .i64 nx)).setCell ⟨w.heap.size, 1, none⟩ (.slice a rs.length ca)) := ((Upd.refl _ _ _).setCell (p := ⟨w.heap.size, 0, none⟩) (Nat.le_refl _) (Nat.lt_succ_self _) _).setCell (p := ⟨w.heap.size, 1, none⟩) (Nat.le_refl _) (Nat.lt_succ_self _) _
    exact ⟨HR2.out.upd HF.out hu, HB2.out.trans (hu.below (Nat.le_refl _) HB2.out.size)⟩
  have hat := assertT
  
  clear hb0 hx hb1 HV hr hx1 hf hB1 hf' hfy hby hbx hB2 hR2 hs1
  go_upto_region 7 with fail
  rw [HW2.out]
  go_wp2
  exact bodyPost_ret (v := .tuple #[.agg #[.int .i64 nx, .slice a rs.length ca], .int .i64 0]) (by simp [results, Tryz.results12, go_sem, q0, q1]) rfl ⟨⟨_, _, rfl, HST.out.1⟩, HST.out.2⟩

set_option maxRecDepth 100000 in
set_option maxHeartbeats 4000000 in
theorem implDecS_ok {N g nx tb : Int} {rs : List R2} (h : spOK N g nx tb rs) (b off c : Nat) (w : World) (hv : Bts w (.slice (some ⟨b, off, none⟩) 128 c) (supL N g nx tb rs)) :
    Calls Tryz.prog 17 #[.slice (some ⟨b, off, none⟩) 128 c] w fun e w' => (∃ a c, e = .returned (.tuple #[.agg #[.int .i64 N, .int .i64 g, .int .i64 nx, .int .i64 tb, .slice a rs.length c], .int .i64 0]) ∧ TRead w' (.slice a rs.length c) rs) ∧ Below w.heap.size w w' := by
  have hb0 := belowA w (.cells #[.int .i64 0, .int .i64 0, .int .i64 0, .int .i64 0, .slice none 0 0] 41)
  have hx : (w.alloc (.cells #[.int .i64 0, .int .i64 0, .int .i64 0, .int .i64 0, .slice none 0 0] 41)).heap[w.heap.size]? = some (.cells #[.int .i64 0, .int .i64 0, .int .i64 0, .int .i64 0, .slice none 0 0] 41 (0, 0)) := heap_alloc_new _ _
  have HV : Hid (Bts _ _ _) := hv.below hb0
  have HO : Hid (spOK N g nx tb rs) := h
  clear hv h
  go_enter Tryz.func17, Tryz.ntmps17
  go_wp2_with fail
  refine (decodeForm_S HO.out b off c _ HV.out).mono ?_
  rintro e w1 ⟨⟨v, rfl, a, ca, rfl, hr, hf⟩, hb1⟩
  have hf' : Fsh (w.heap.size + 1) a := by simpa using hf
  have HF : Hid (Fsh (w.heap.size + 1) a) := hf'
  have hx1 := (hb1.block _ (Array.getElem?_eq_some_iff.1 hx).1).trans hx
  have hB1 := hb0.trans (hb1.mono hb0.size)
  have hs1 : w.heap.size < w1.heap.size := (Array.getElem?_eq_some_iff.1 hx1).1
  obtain ⟨W2, HW2⟩ : ∃ W2, Hid (w1.alloc (.cells #[.int .i64 4, .int .i64 rs.length, .int .i64 N, .int .i64 g, .int .i64 nx, .int .i64 tb, .slice a rs.length ca] 85) = W2) := ⟨_, rfl⟩
  have hby := ((belowA w1 (.cells #[.int .i64 4, .int .i64 rs.length, .int .i64 N, .int .i64 g, .int .i64 nx, .int .i64 tb, .slice a rs.length ca] 85)).block _ hs1).trans hx1
  have hbx := heap_alloc_new w1 (.cells #[.int .i64 4, .int .i64 rs.length, .int .i64 N, .int .i64 g, .int .i64 nx, .int .i64 tb, .slice a rs.length ca] 85)
  have hB2 := hB1.trans ((belowA w1 (.cells #[.int .i64 4, .int .i64 rs.length, .int .i64 N, .int .i64 g, .int .i64 nx, .int .i64 tb, .slice a rs.length ca] 85)).mono hB1.size)
  have hR2 := hr.below (belowA w1 (.cells #[.int .i64 4, .int .i64 rs.length, .int .i64 N, .int .i64 g, .int .i64 nx, .int .i64 tb, .slice a rs.length ca] 85))
  rw [HW2.out] at hby hbx hB2 hR2
  have HB2 : Hid (Below w.heap.size w W2) := hB2
  have HR2 : Hid (TRead W2 (.slice a rs.length ca) rs) := hR2
  have hcx : W2.cell? ⟨w1.heap.size, 0, none⟩ = some (.int .i64 4) ∧ W2.cell? ⟨w1.heap.size, 1, none⟩ = some (.int .i64 rs.length) ∧ W2.cell? ⟨w1.heap.size, 2, none⟩ = some (.int .i64 N) ∧ W2.cell? ⟨w1.heap.size, 3, none⟩ = some (.int .i64 g) ∧ W2.cell? ⟨w1.heap.size, 4, none⟩ = some (.int .i64 nx) ∧ W2.cell? ⟨w1.heap.size, 5, none⟩ = some (.int .i64 tb) ∧ W2.cell? ⟨w1.heap.size, 6, none⟩ = some (.slice a rs.length ca) := by simp [World.cell?, hbx]
  obtain ⟨p0, p1, p2, p3, p4, p5, p6⟩ := hcx
  have hcy : W2.cell? ⟨w.heap.size, 0, none⟩ = some (.int .i64 0) ∧ W2.cell? ⟨w.heap.size, 1, none⟩ = some (.int .i64 0) ∧ W2.cell? ⟨w.heap.size, 2, none⟩ = some (.int .i64 0) ∧ W2.cell? ⟨w.heap.size, 3, none⟩ = some (.int .i64 0) ∧ W2.cell? ⟨w.heap.size, 4, none⟩ = some (.slice none 0 0) := by simp [World.cell?, hby]
  obtain ⟨q0, q1, q2, q3, q4⟩ := hcy
  have hfy : ∀ i, W2.frozen? ⟨w.heap.size, i, none⟩ = false := fun i => frozen_of_row W2 _ i _ _ hby
  have z0 := hfy 0
  have z1 := hfy 1
  have z2 := hfy 2
  have z3 := hfy 3
  have z4 := hfy 4
  have HST : Hid (TRead (((((W2.setCell ⟨w.heap.size, 0, none⟩ (.int .i64 N)).setCell ⟨w.heap.size, 1, none⟩ (.int .i64 g)).setCell ⟨w.heap.size, 2, none⟩ (.int .i64 nx)).setCell ⟨w.heap.size, 3, none⟩ (.int .i64 tb)).setCell ⟨w.heap.size, 4, none⟩ (.slice a rs.length ca)) (.slice a rs.length ca) rs ∧ Below w.heap.size w (((((W2.setCell ⟨w.heap.size, 0, none⟩ (.int .i64 N)).setCell ⟨w.heap.size, 1, none⟩ (.int .i64 g)).setCell ⟨w.heap.size, 2, none⟩ (.int .i64 nx)).setCell ⟨w.heap.size, 3, none⟩ (.int .i64 tb)).setCell ⟨w.heap.size, 4, none⟩ (.slice a rs.length ca))) := by
    have hu : Upd w.heap.size (w.heap.size + 1) W2 (((((W2.setCell ⟨w.heap.size, 0, none⟩ (.int .i64 N)).setCell ⟨w.heap.size, 1, none⟩ (.int .i64 g)).setCell ⟨w.heap.size, 2, none⟩ (.int .i64 nx)).setCell ⟨w.heap.size, 3, none⟩ (.int .i64 tb)).setCell ⟨w.heap.size, 4, none⟩ (.slice a rs.length ca)) := (((((Upd.refl _ _ _).setCell (p := ⟨w.heap.size, 0, none⟩) (Nat.le_refl _) (Nat.lt_succ_self _) _).setCell (p := ⟨w.heap.size, 1, none⟩) (Nat.le_refl _) (Nat.lt_succ_self _) _).setCell (p := ⟨w.heap.size, 2, none⟩) (Nat.le_refl _) (Nat.lt_succ_self _) _).setCell (p := ⟨w.heap.size, 3, none⟩) (Nat.le_refl _) (Nat.lt_succ_self _) _).setCell (p := ⟨w.heap.size, 4, none⟩) (Nat.le_refl _) (Nat.lt_succ_self _) _
    exact ⟨HR2.out.upd HF.out hu, HB2.out.trans (hu.below (Nat.le_refl _) HB2.out.size)⟩
  have hat := assertS
  
  clear hb0 hx hb1 HV hr hx1 hf hB1 hf' hfy hby hbx hB2 hR2 hs1
  go_upto_region 7 with fail
  rw [HW2.out]
  go_wp2
  exact bodyPost_ret (v := .tuple #[.agg #[.int .i64 N, .int .i64 g, .int .i64 nx, .int .i64 tb, .slice a rs.length ca], .int .i64 0]) (by simp [results, Tryz.results17, go_sem, q0, q1, q2, q3, q4]) rfl ⟨⟨_, _, rfl, HST.out.1⟩, HST.out.2⟩

set_option maxRecDepth 100000 in
set_option maxHeartbeats 4000000 in
theorem implDecL_ok {rs : List E3} (h : nodeOK 1 rs) (b off c : Nat) (w : World) (hv : Bts w (.slice (some ⟨b, off, none⟩) 128 c) (nodL 1 rs)) :
    Calls Tryz.prog 7 #[.slice (some ⟨b, off, none⟩) 128 c] w fun e w' => (∃ a c, e = .returned (.tuple #[.agg #[.int .i64 1, .slice a rs.length c], .int .i64 0]) ∧ NRead w' (.slice a rs.length c) rs) ∧ Below w.heap.size w w' := by
  have hb0 := belowA w (.cells #[.int .i64 0, .slice none 0 0] 25)
  have hx : (w.alloc (.cells #[.int .i64 0, .slice none 0 0] 25)).heap[w.heap.size]? = some (.cells #[.int .i64 0, .slice none 0 0] 25 (0, 0)) := heap_alloc_new _ _
  have HV : Hid (Bts _ _ _) := hv.below hb0
  have HO : Hid (nodeOK 1 rs) := h
  clear hv h
  go_enter Tryz.func7, Tryz.ntmps7
  go_wp2_with fail
  refine (decodeForm_L HO.out b off c _ HV.out).mono ?_
  rintro e w1 ⟨⟨v, rfl, a, ca, rfl, hr, hf⟩, hb1⟩
  have hf' : Fsh (w.heap.size + 1) a := by simpa using hf
  have HF : Hid (Fsh (w.heap.size + 1) a) := hf'
  have hx1 := (hb1.block _ (Array.getElem?_eq_some_iff.1 hx).1).trans hx
  have hB1 := hb0.trans (hb1.mono hb0.size)
  have hs1 : w.heap.size < w1.heap.size := (Array.getElem?_eq_some_iff.1 hx1).1
  obtain ⟨W2, HW2⟩ : ∃ W2, Hid (w1.alloc (.cells #[.int .i64 1, .int .i64 rs.length, .slice a rs.length ca] 75) = W2) := ⟨_, rfl⟩
  have hby := ((belowA w1 (.cells #[.int .i64 1, .int .i64 rs.length, .slice a rs.length ca] 75)).block _ hs1).trans hx1
  have hbx := heap_alloc_new w1 (.cells #[.int .i64 1, .int .i64 rs.length, .slice a rs.length ca] 75)
  have hB2 := hB1.trans ((belowA w1 (.cells #[.int .i64 1, .int .i64 rs.length, .slice a rs.length ca] 75)).mono hB1.size)
  have hR2 := hr.below (belowA w1 (.cells #[.int .i64 1, .int .i64 rs.length, .slice a rs.length ca] 75))
  rw [HW2.out] at hby hbx hB2 hR2
  have HB2 : Hid (Below w.heap.size w W2) := hB2
  have HR2 : Hid (NRead W2 (.slice a rs.length ca) rs) := hR2
  have hcx : W2.cell? ⟨w1.heap.size, 0, none⟩ = some (.int .i64 1) ∧ W2.cell? ⟨w1.heap.size, 1, none⟩ = some (.int .i64 rs.length) ∧ W2.cell? ⟨w1.heap.size, 2, none⟩ = some (.slice a rs.length ca) := by simp [World.cell?, hbx]
  obtain ⟨p0, p1, p2⟩ := hcx
  have hcy : W2.cell? ⟨w.heap.size, 0, none⟩ = some (.int .i64 0) ∧ W2.cell? ⟨w.heap.size, 1, none⟩ = some (.slice none 0 0) := by simp [World.cell?, hby]
  obtain ⟨q0, q1⟩ := hcy
  have hfy : ∀ i, W2.frozen? ⟨w.heap.size, i, none⟩ = false := fun i => frozen_of_row W2 _ i _ _ hby
  have z0 := hfy 0
  have z1 := hfy 1
  have HST : Hid (NRead ((W2.setCell ⟨w.heap.size, 0, none⟩ (.int .i64 1)).setCell ⟨w.heap.size, 1, none⟩ (.slice a rs.length ca)) (.slice a rs.length ca) rs ∧ Below w.heap.size w ((W2.setCell ⟨w.heap.size, 0, none⟩ (.int .i64 1)).setCell ⟨w.heap.size, 1, none⟩ (.slice a rs.length ca))) := by
    have hu : Upd w.heap.size (w.heap.size + 1) W2 ((W2.setCell ⟨w.heap.size, 0, none⟩ (.int .i64 1)).setCell ⟨w.heap.size, 1, none⟩ (.slice a rs.length ca)) := ((Upd.refl _ _ _).setCell (p := ⟨w.heap.size, 0, none⟩) (Nat.le_refl _) (Nat.lt_succ_self _) _).setCell (p := ⟨w.heap.size, 1, none⟩) (Nat.le_refl _) (Nat.lt_succ_self _) _
    exact ⟨HR2.out.upd HF.out hu, HB2.out.trans (hu.below (Nat.le_refl _) HB2.out.size)⟩
  have hat := assertL
  
  clear hb0 hx hb1 HV hr hx1 hf hB1 hf' hfy hby hbx hB2 hR2 hs1
  go_upto_region 7 with fail
  rw [HW2.out]
  go_wp2
  exact bodyPost_ret (v := .tuple #[.agg #[.int .i64 1, .slice a rs.length ca], .int .i64 0]) (by simp [results, Tryz.results7, go_sem, q0, q1]) rfl ⟨⟨_, _, rfl, HST.out.1⟩, HST.out.2⟩

set_option maxRecDepth 100000 in
set_option maxHeartbeats 4000000 in
theorem implDecI_ok {rs : List E3} (h : nodeOK 2 rs) (b off c : Nat) (w : World) (hv : Bts w (.slice (some ⟨b, off, none⟩) 128 c) (nodL 2 rs)) :
    Calls Tryz.prog 7 #[.slice (some ⟨b, off, none⟩) 128 c] w fun e w' => (∃ a c, e = .returned (.tuple #[.agg #[.int .i64 2, .slice a rs.length c], .int .i64 0]) ∧ NRead w' (.slice a rs.length c) rs) ∧ Below w.heap.size w w' := by
  have hb0 := belowA w (.cells #[.int .i64 0, .slice none 0 0] 25)
  have hx : (w.alloc (.cells #[.int .i64 0, .slice none 0 0] 25)).heap[w.heap.size]? = some (.cells #[.int .i64 0, .slice none 0 0] 25 (0, 0)) := heap_alloc_new _ _
  have HV : Hid (Bts _ _ _) := hv.below hb0
  have HO : Hid (nodeOK 2 rs) := h
  clear hv h
  go_enter Tryz.func7, Tryz.ntmps7
  go_wp2_with fail
  refine (decodeForm_I HO.out b off c _ HV.out).mono ?_
  rintro e w1 ⟨⟨v, rfl, a, ca, rfl, hr, hf⟩, hb1⟩
  have hf' : Fsh (w.heap.size + 1) a := by simpa using hf
  have HF : Hid (Fsh (w.heap.size + 1) a) := hf'
  have hx1 := (hb1.block _ (Array.getElem?_eq_some_iff.1 hx).1).trans hx
  have hB1 := hb0.trans (hb1.mono hb0.size)
  have hs1 : w.heap.size < w1.heap.size := (Array.getElem?_eq_some_iff.1 hx1).1
  obtain ⟨W2, HW2⟩ : ∃ W2, Hid (w1.alloc (.cells #[.int .i64 2, .int .i64 rs.length, .slice a rs.length ca] 76) = W2) := ⟨_, rfl⟩
  have hby := ((belowA w1 (.cells #[.int .i64 2, .int .i64 rs.length, .slice a rs.length ca] 76)).block _ hs1).trans hx1
  have hbx := heap_alloc_new w1 (.cells #[.int .i64 2, .int .i64 rs.length, .slice a rs.length ca] 76)
  have hB2 := hB1.trans ((belowA w1 (.cells #[.int .i64 2, .int .i64 rs.length, .slice a rs.length ca] 76)).mono hB1.size)
  have hR2 := hr.below (belowA w1 (.cells #[.int .i64 2, .int .i64 rs.length, .slice a rs.length ca] 76))
  rw [HW2.out] at hby hbx hB2 hR2
  have HB2 : Hid (Below w.heap.size w W2) := hB2
  have HR2 : Hid (NRead W2 (.slice a rs.length ca) rs) := hR2
  have hcx : W2.cell? ⟨w1.heap.size, 0, none⟩ = some (.int .i64 2) ∧ W2.cell? ⟨w1.heap.size, 1, none⟩ = some (.int .i64 rs.length) ∧ W2.cell? ⟨w1.heap.size, 2, none⟩ = some (.slice a rs.length ca) := by simp [World.cell?, hbx]
  obtain ⟨p0, p1, p2⟩ := hcx
  have hcy : W2.cell? ⟨w.heap.size, 0, none⟩ = some (.int .i64 0) ∧ W2.cell? ⟨w.heap.size, 1, none⟩ = some (.slice none 0 0) := by simp [World.cell?, hby]
  obtain ⟨q0, q1⟩ := hcy
  have hfy : ∀ i, W2.frozen? ⟨w.heap.size, i, none⟩ = false := fun i => frozen_of_row W2 _ i _ _ hby
  have z0 := hfy 0
  have z1 := hfy 1
  have HST : Hid (NRead ((W2.setCell ⟨w.heap.size, 0, none⟩ (.int .i64 2)).setCell ⟨w.heap.size, 1, none⟩ (.slice a rs.length ca)) (.slice a rs.length ca) rs ∧ Below w.heap.size w ((W2.setCell ⟨w.heap.size, 0, none⟩ (.int .i64 2)).setCell ⟨w.heap.size, 1, none⟩ (.slice a rs.length ca))) := by
    have hu : Upd w.heap.size (w.heap.size + 1) W2 ((W2.setCell ⟨w.heap.size, 0, none⟩ (.int .i64 2)).setCell ⟨w.heap.size, 1, none⟩ (.slice a rs.length ca)) := ((Upd.refl _ _ _).setCell (p := ⟨w.heap.size, 0, none⟩) (Nat.le_refl _) (Nat.lt_succ_self _) _).setCell (p := ⟨w.heap.size, 1, none⟩) (Nat.le_refl _) (Nat.lt_succ_self _) _
    exact ⟨HR2.out.upd HF.out hu, HB2.out.trans (hu.below (Nat.le_refl _) HB2.out.size)⟩
  have hat := assertI
  have hat2 := assertIL
  clear hb0 hx hb1 HV hr hx1 hf hB1 hf' hfy hby hbx hB2 hR2 hs1
  go_upto_region 10 with fail
  rw [HW2.out]
  go_wp2
  exact bodyPost_ret (v := .tuple #[.agg #[.int .i64 2, .slice a rs.length ca], .int .i64 0]) (by simp [results, Tryz.results7, go_sem, q0, q1]) rfl ⟨⟨_, _, rfl, HST.out.1⟩, HST.out.2⟩
end Go.Proofs.YtfbjagjgofdheaaGreatDoor

namespace Go.Proofs.YtfbjagjgofdheaaGreatDoor
open Go.RowKit
set_option linter.unusedVariables false

/-- four sentinels and the type of errors -/
structure Five (w : World) (a s k n : Addr) : Prop where
  two : Two w a s
  typ : w.cell? ⟨4, 0, none⟩ = some (.iface 129 (.agg #[.pointer (some ⟨8, 65, none⟩)]))
  kind : w.cell? ⟨0, 0, none⟩ = some (.iface 146 (.pointer (some k)))
  num : w.cell? ⟨5, 0, none⟩ = some (.iface 146 (.pointer (some n)))
  ok : ∃ c t, w.heap[k.block]? = some (.cells c t (0, 0))
  on : ∃ c t, w.heap[n.block]? = some (.cells c t (0, 0))
  ka : k ≠ a
  ks : k ≠ s
  na : n ≠ a
  ns : n ≠ s
theorem Five.below {w w' : World} {a s k n : Addr} (h : Five w a s k n) (b : Below w.heap.size w w') : Five w' a s k n := by
  refine ⟨h.two.below b, (b.cell (p := ⟨4, 0, none⟩) (World.block_lt_of_cell? _ _ h.typ)).trans h.typ, (b.cell (p := ⟨0, 0, none⟩) (World.block_lt_of_cell? _ _ h.kind)).trans h.kind, (b.cell (p := ⟨5, 0, none⟩) (World.block_lt_of_cell? _ _ h.num)).trans h.num, ?_, ?_, h.ka, h.ks, h.na, h.ns⟩
  · obtain ⟨c, t, e⟩ := h.ok
    exact ⟨c, t, (b.block _ (Array.getElem?_eq_some_iff.1 e).1).trans e⟩
  · obtain ⟨c, t, e⟩ := h.on
    exact ⟨c, t, (b.block _ (Array.getElem?_eq_some_iff.1 e).1).trans e⟩

set_option maxHeartbeats 2000000 in
/-- a fault of neither -/
theorem codeOf_form {w : World} {a s x : Addr} (hT : Two w a s) (typ : w.cell? ⟨4, 0, none⟩ = some (.iface 129 (.agg #[.pointer (some ⟨8, 65, none⟩)]))) (ox : ∃ c t, w.heap[x.block]? = some (.cells c t (0, 0))) (xa : x ≠ a) (xs : x ≠ s) {v : Value} (hv : Flt w x v) :
    Calls Tryz.prog 29 #[v] w fun e w' => e = .returned (.int .i64 5) ∧ Below w.heap.size w w' := by
  have hb0 : Below w.heap.size w (w.alloc (.cells #[.pointer none] 92)) := (Below.refl _ _).alloc (Nat.le_refl _) _
  have hT1 := hT.below hb0
  obtain ⟨pb, hve, h1⟩ := hv
  have h2 : (w.alloc (.cells #[.pointer none] 92)).cell? ⟨pb, 0 + 1, none⟩ = some (.iface 146 (.pointer (some x))) := (hb0.cell (p := ⟨pb, 0 + 1, none⟩) (World.block_lt_of_cell? _ _ h1)).trans h1
  have typ1 := (hb0.cell (p := ⟨4, 0, none⟩) (World.block_lt_of_cell? _ _ typ)).trans typ
  have HV : Hid _ := h2
  have HTY : Hid _ := typ1
  have c1 := hT1.size
  have c2 := hT1.sum
  obtain ⟨ca, ta, ea⟩ := hT1.oa
  obtain ⟨cs, ts, es⟩ := hT1.os
  obtain ⟨cx, tx, ex⟩ := ox
  have ex1 := (hb0.block _ (Array.getElem?_eq_some_iff.1 ex).1).trans ex
  have HEA : Hid _ := ea
  have HES : Hid _ := es
  have HEX : Hid _ := ex1
  have HXA : Hid (x ≠ a) := xa
  have HXS : Hid (x ≠ s) := xs
  subst hve
  have hnil := fun w => run_eql_iface_nil (P := Tryz.prog) (w := w) 65 (by kernel_rfl) 92 (.pointer (some ⟨pb, 0, none⟩))
  have ct : (w.alloc (.cells #[.pointer none] 92)).cell? ⟨w.heap.size, 0, none⟩ = some (.pointer none) := World.cell?_alloc_at _ _ _ _ rfl
  have cf : (w.alloc (.cells #[.pointer none] 92)).frozen? ⟨w.heap.size, 0, none⟩ = false := World.frozen?_alloc_at _ _ _ _ rfl
  have HCT : Hid _ := ct
  have HCF : Hid _ := cf
  clear h1 h2 ea es hT hT1 typ typ1 ex ex1 xa xs ct cf
  go_enter Tryz.func29, Tryz.ntmps29
  go_wp2_with fail
  refine (is_wrap_other pb 0 a x cx ca tx ta _ HV.out HXA.out HEX.out HEA.out).mono ?_
  rintro e w' ⟨rfl, rfl⟩
  go_wp2_with fail
  refine (is_wrap_other pb 0 s x cx cs tx ts _ HV.out HXS.out HEX.out HES.out).mono ?_
  rintro e w' ⟨rfl, rfl⟩
  go_wp2_with fail
  refine (as_hit _ ⟨w.heap.size, 0, none⟩ (.pointer none) _ HTY.out HCT.out HCF.out).mono ?_
  rintro e w' ⟨rfl, hw⟩
  have hB : Below w.heap.size w w' := by
    rw [hw]
    exact (((((hb0.alloc (by simp) _).alloc (by simp; omega) _).alloc (by simp; omega) _).alloc (by simp; omega) _).setCell (p := ⟨w.heap.size, 0, none⟩) (Nat.le_refl _) _)
  clear hw HCT HCF
  go_wp2
  go_ret
  exact ⟨rfl, hB⟩

set_option maxRecDepth 100000 in
set_option maxHeartbeats 2000000 in
/-- no kind -/
theorem formOfNode_none (w : World) (x : Addr) (hx : w.cell? ⟨0, 0, none⟩ = some (.iface 146 (.pointer (some x)))) :
    Calls Tryz.prog 28 #[.agg #[.int .i64 0, .slice none 0 0]] w fun e w' => (∃ v, e = .returned (.tuple #[.nilIface, v]) ∧ Flt w' x v) ∧ Below w.heap.size w w' := by
  have hb0 := belowA w (.cells #[.int .i64 0, .slice none 0 0] 25)
  have hX : (w.alloc (.cells #[.int .i64 0, .slice none 0 0] 25)).heap[w.heap.size]? = some (.cells #[.int .i64 0, .slice none 0 0] 25 (0, 0)) := heap_alloc_new w _
  have hs0 : w.heap.size < (w.alloc (.cells #[.int .i64 0, .slice none 0 0] 25)).heap.size := by simp
  obtain ⟨x0, x1, -, -⟩ := row2 hX
  go_enter Tryz.func28, Tryz.ntmps28
  go_wp2_with fail
  refine (headerOf_any 0 0 (by omega) _).mono ?_
  rintro e w1 ⟨rfl, hb1⟩
  have hX1 := (hb1.block _ hs0).trans hX
  have hB1 := hb0.trans (hb1.mono hb0.size)
  have hs1 : w.heap.size < w1.heap.size := Nat.lt_of_lt_of_le hs0 hb1.size
  have hX2 := fun o => ((belowA w1 o).block _ hs1).trans hX1
  have hB2 := hB1.trans ((belowA w1 (.cells #[.int .i64 0, .int .i64 0] 73)).mono hB1.size)
  obtain ⟨y0, y1, -, -⟩ := row2 (hX2 (.cells #[.int .i64 0, .int .i64 0] 73))
  have hk2 := (hB2.cell (p := ⟨0, 0, none⟩) (World.block_lt_of_cell? _ _ hx)).trans hx
  clear hb0 hX hs0 x0 x1 hb1 hX1 hX2 hB1 hx
  go_wp2_with fail
  generalize w1.alloc (.cells #[.int .i64 0, .int .i64 0] 73) = W2 at *
  have HFL : Hid (Flt ((W2.alloc (.cells #[.int .i64 0, .iface 146 (.pointer (some x))] 94)).drew) x (.iface 92 (.pointer (some ⟨W2.heap.size, 0, none⟩))) ∧ Below w.heap.size w ((W2.alloc (.cells #[.int .i64 0, .iface 146 (.pointer (some x))] 94)).drew)) := ⟨⟨W2.heap.size, rfl, World.cell?_alloc_at _ _ _ _ rfl⟩, hB2.trans (((belowA W2 _).drew).mono hB2.size)⟩
  clear y0 y1 hB2
  go_region_held3 (fun w' => w'.cell? ⟨0, 0, none⟩ = some (.iface 146 (.pointer (some x)))) (first | go_keep | assumption) (fail)
  clear hk2
  go_wp2
  exact bodyPost_ret (v := .tuple #[.nilIface, .iface 92 (.pointer (some ⟨W2.heap.size, 0, none⟩))]) (by simp [results, Tryz.results28, go_sem]) rfl ⟨⟨_, rfl, HFL.out.1⟩, HFL.out.2⟩

set_option maxHeartbeats 2000000 in
/-- no roots -/
theorem checkNumber_none (w : World) (x : Addr) (hx : w.cell? ⟨5, 0, none⟩ = some (.iface 146 (.pointer (some x)))) :
    Calls Tryz.prog 62 #[.agg #[.int .i64 4, .int .i64 0]] w fun e w' => (∃ v, e = .returned v ∧ Flt w' x v) ∧ Below w.heap.size w w' := by
  have hb0 := belowA w (.cells #[.int .i64 4, .int .i64 0] 73)
  have hx0 := (hb0.cell (p := ⟨5, 0, none⟩) (World.block_lt_of_cell? _ _ hx)).trans hx
  go_enter Tryz.func62, Tryz.ntmps62
  go_wp2_with fail
  refine (within_any _ _ _ _).mono ?_
  rintro e w1 ⟨rfl, rfl⟩
  rw [show inB 0 1 16 = false by decide]
  generalize w.alloc (.cells #[.int .i64 4, .int .i64 0] 73) = W2 at *
  clear hx
  have HFL : Hid (Flt (W2.alloc (.cells #[.int .i64 1, .iface 146 (.pointer (some x))] 94)) x (.iface 92 (.pointer (some ⟨W2.heap.size, 0, none⟩))) ∧ Below w.heap.size w (W2.alloc (.cells #[.int .i64 1, .iface 146 (.pointer (some x))] 94))) := ⟨⟨W2.heap.size, rfl, World.cell?_alloc_at _ _ _ _ rfl⟩, hb0.trans ((belowA W2 _).mono hb0.size)⟩
  go_wp2
  go_ret
  exact ⟨⟨_, rfl, HFL.out.1⟩, HFL.out.2⟩

set_option maxRecDepth 100000 in
set_option maxHeartbeats 2000000 in
theorem implEncN_none {w : World} {a s k n : Addr} (h : Five w a s k n) :
    Calls Tryz.prog 6 #[.agg #[.int .i64 0, .slice none 0 0]] w fun e w' => e = .returned (.tuple #[.slice none 0 0, .int .i64 5]) ∧ Below w.heap.size w w' := by
  have hb0 := belowA w (.cells #[.int .i64 0, .slice none 0 0] 25)
  have hX : (w.alloc (.cells #[.int .i64 0, .slice none 0 0] 25)).heap[w.heap.size]? = some (.cells #[.int .i64 0, .slice none 0 0] 25 (0, 0)) := heap_alloc_new w _
  obtain ⟨x0, x1, -, -⟩ := row2 hX
  have HF0 : Hid (Five _ _ _ _ _) := h.below hb0
  have HF : Hid (Five _ _ _ _ _) := h
  clear h hX
  go_enter Tryz.func6, Tryz.ntmps6
  go_wp2_with fail
  refine (formOfNode_none _ k HF0.out.kind).mono ?_
  rintro e w1 ⟨⟨v, rfl, hfl⟩, hb1⟩
  have hB1 := hb0.trans (hb1.mono hb0.size)
  have HFL : Hid (Flt w1 k v) := hfl
  obtain ⟨pb, rfl, -⟩ := hfl
  have hnil := fun w => run_neq_iface_nil (P := Tryz.prog) (w := w) 65 (by kernel_rfl) 92 (.pointer (some ⟨pb, 0, none⟩))
  have HF1 : Hid (Five _ _ _ _ _) := HF.out.below hB1
  clear x0 x1 hb0 hb1 HF0
  go_wp2_with fail
  refine (codeOf_form HF1.out.two HF1.out.typ HF1.out.ok HF1.out.ka HF1.out.ks HFL.out).mono ?_
  rintro e w2 ⟨rfl, hb2⟩
  have hB2 := hB1.trans (hb2.mono hB1.size)
  clear hnil
  go_wp2
  exact bodyPost_ret (v := .tuple #[.slice none 0 0, .int .i64 5]) (by simp [results, Tryz.results6, go_sem]) rfl ⟨rfl, hB2⟩

/-- a superblock with nothing in it -/
abbrev sup0 : Value := .agg #[.int .i64 4, .int .i64 0, .int .i64 0, .int .i64 0, .int .i64 0, .int .i64 0, .slice none 0 0]
set_option maxRecDepth 100000 in
set_option maxHeartbeats 2000000 in
theorem superCheck_none (w : World) (x : Addr) (hx : w.cell? ⟨5, 0, none⟩ = some (.iface 146 (.pointer (some x)))) :
    Calls Tryz.prog 104 #[.agg #[.int .i64 4, .int .i64 0, .int .i64 0, .int .i64 0, .int .i64 0, .int .i64 0, .slice none 0 0]] w fun e w' => (∃ v, e = .returned v ∧ Flt w' x v) ∧ Below w.heap.size w w' := by
  have hb0 := belowA w (.cells #[.int .i64 4, .int .i64 0, .int .i64 0, .int .i64 0, .int .i64 0, .int .i64 0, .slice none 0 0] 85)
  have hX := heap_alloc_new w (.cells #[.int .i64 4, .int .i64 0, .int .i64 0, .int .i64 0, .int .i64 0, .int .i64 0, .slice none 0 0] 85)
  have hx0 := (hb0.cell (p := ⟨5, 0, none⟩) (World.block_lt_of_cell? _ _ hx)).trans hx
  have x0 : (w.alloc (.cells #[.int .i64 4, .int .i64 0, .int .i64 0, .int .i64 0, .int .i64 0, .int .i64 0, .slice none 0 0] 85)).cell? ⟨w.heap.size, 0, none⟩ = some (.int .i64 4) := World.cell?_alloc_at _ _ _ _ rfl
  have x1 : (w.alloc (.cells #[.int .i64 4, .int .i64 0, .int .i64 0, .int .i64 0, .int .i64 0, .int .i64 0, .slice none 0 0] 85)).cell? ⟨w.heap.size, 1, none⟩ = some (.int .i64 0) := World.cell?_alloc_at _ _ _ _ rfl
  have HX0 : Hid _ := hx0
  clear hX hx hx0
  go_enter Tryz.func104, Tryz.ntmps104
  go_wp2_with fail
  refine (checkNumber_none _ x HX0.out).mono ?_
  rintro e w1 ⟨⟨v, rfl, hfl⟩, hb1⟩
  have hB1 := hb0.trans (hb1.mono hb0.size)
  have HFL : Hid (Flt w1 x v) := hfl
  obtain ⟨pb, rfl, -⟩ := hfl
  have hnil := fun w => run_neq_iface_nil (P := Tryz.prog) (w := w) 65 (by kernel_rfl) 92 (.pointer (some ⟨pb, 0, none⟩))
  clear x0 x1 hb0 hb1
  go_wp2
  go_ret
  exact ⟨⟨_, rfl, HFL.out⟩, hB1⟩

set_option maxRecDepth 100000 in
set_option maxHeartbeats 2000000 in
theorem encodeForm_none (w : World) (x : Addr) (hx : w.cell? ⟨5, 0, none⟩ = some (.iface 146 (.pointer (some x)))) :
    Calls Tryz.prog 30 #[.iface 85 (.agg #[.int .i64 4, .int .i64 0, .int .i64 0, .int .i64 0, .int .i64 0, .int .i64 0, .slice none 0 0])] w fun e w' => (∃ v, e = .returned (.tuple #[.slice none 0 0, v]) ∧ Flt w' x v) ∧ Below w.heap.size w w' := by
  have mC := methodCheckS
  have eC := enters Tryz.func104 (by kernel_rfl) rfl
  have HX : Hid _ := hx
  clear hx
  go_enter Tryz.func30, Tryz.ntmps30
  go_wp2_with fail
  refine (superCheck_none _ x HX.out).mono ?_
  rintro e w1 ⟨⟨v, rfl, hfl⟩, hb1⟩
  have HFL : Hid (Flt w1 x v) := hfl
  obtain ⟨pb, rfl, -⟩ := hfl
  have hnil := fun w => run_neq_iface_nil (P := Tryz.prog) (w := w) 65 (by kernel_rfl) 92 (.pointer (some ⟨pb, 0, none⟩))
  clear mC eC
  go_wp2
  exact bodyPost_ret (v := .tuple #[.slice none 0 0, .iface 92 (.pointer (some ⟨pb, 0, none⟩))]) (by simp [results, Tryz.results30, go_sem]) rfl ⟨⟨_, rfl, HFL.out⟩, hb1⟩

set_option maxRecDepth 100000 in
set_option maxHeartbeats 2000000 in
theorem implEncS_none {w : World} {a s k n : Addr} (h : Five w a s k n) :
    Calls Tryz.prog 16 #[.agg #[.int .i64 0, .int .i64 0, .int .i64 0, .int .i64 0, .slice none 0 0]] w fun e w' => e = .returned (.tuple #[.slice none 0 0, .int .i64 5]) ∧ Below w.heap.size w w' := by
  have hb0 := belowA w (.cells #[.int .i64 0, .int .i64 0, .int .i64 0, .int .i64 0, .slice none 0 0] 41)
  have hX := heap_alloc_new w (.cells #[.int .i64 0, .int .i64 0, .int .i64 0, .int .i64 0, .slice none 0 0] 41)
  have HCELL : Hid (∀ W : World, W.heap[w.heap.size]? = some (.cells #[.int .i64 0, .int .i64 0, .int .i64 0, .int .i64 0, .slice none 0 0] 41 (0, 0)) → W.cell? ⟨w.heap.size, 0, none⟩ = some (.int .i64 0) ∧ W.cell? ⟨w.heap.size, 1, none⟩ = some (.int .i64 0) ∧ W.cell? ⟨w.heap.size, 2, none⟩ = some (.int .i64 0) ∧ W.cell? ⟨w.heap.size, 3, none⟩ = some (.int .i64 0) ∧ W.cell? ⟨w.heap.size, 4, none⟩ = some (.slice none 0 0)) := fun W h => by
    simp [World.cell?, h]
  have e0 := HCELL.out _ hX
  have HX : Hid _ := hX
  have hs0 : w.heap.size < (w.alloc (.cells #[.int .i64 0, .int .i64 0, .int .i64 0, .int .i64 0, .slice none 0 0] 41)).heap.size := by simp
  have HF : Hid (Five w a s k n) := h
  clear h
  go_enter Tryz.func16, Tryz.ntmps16
  go_wp2_with fail
  generalize w.alloc (.cells #[.int .i64 0, .int .i64 0, .int .i64 0, .int .i64 0, .slice none 0 0] 41) = W0 at *
  have HB0 : Hid (Below w.heap.size w W0) := hb0
  have HS0 : Hid (w.heap.size < W0.heap.size) := hs0
  clear hb0 hs0 hX
  obtain ⟨d0, d1, d2, d3, d4⟩ := e0
  go_region_held3 (fun W => W.cell? ⟨w.heap.size, 0, none⟩ = some (.int .i64 0) ∧ W.cell? ⟨w.heap.size, 1, none⟩ = some (.int .i64 0) ∧ W.cell? ⟨w.heap.size, 2, none⟩ = some (.int .i64 0) ∧ W.cell? ⟨w.heap.size, 3, none⟩ = some (.int .i64 0) ∧ W.cell? ⟨w.heap.size, 4, none⟩ = some (.slice none 0 0)) (first | go_keep | assumption)
    ((first
      | (go_at_call 34; refine (headerOf_any 4 0 (by omega) W0.drew).mono ?_; rintro e w1 ⟨rfl, hb1⟩; have hx1 := (hb1.block _ HS0.out).trans HX.out; have hk1 := HCELL.out w1 hx1)
      | (go_at_call 30; have hbw1 := HB0.out.drew.trans (hb1.mono HB0.out.size); refine (encodeForm_none w1 n (HF.out.below hbw1).num).mono ?_; rintro e w2 ⟨⟨v, rfl, hfl⟩, hb2⟩; have hk2 := HCELL.out w2 ((hb2.block _ (Nat.lt_of_lt_of_le HS0.out hb1.size)).trans hx1))))
  have hB2 := hbw1.trans (hb2.mono hbw1.size)
  have HFL : Hid (Flt w2 n v) := hfl
  have HF2 : Hid (Five w2 a s k n) := HF.out.below hB2
  clear hk1 hk2 hfl hb2 hbw1 hb1 hx1 d0 d1 d2 d3 d4
  go_wp2_with fail
  refine (codeOf_form HF2.out.two HF2.out.typ HF2.out.on HF2.out.na HF2.out.ns HFL.out).mono ?_
  rintro e w3 ⟨rfl, hb3⟩
  have hB3 := hB2.trans (hb3.mono hB2.size)
  go_wp2
  exact bodyPost_ret (v := .tuple #[.slice none 0 0, .int .i64 5]) (by simp [results, Tryz.results16, go_sem]) rfl ⟨rfl, hB3⟩

set_option maxRecDepth 100000 in
set_option maxHeartbeats 1000000 in
theorem implDecS_sum (zs : List Int) (hl : zs.length = 128) (hz : Byt zs) (hne : ¬ putL zs 124 (crcOf (zs.take 124)) 4 = zs) {a s : Addr} (b off c : Nat) (w : World) (hT : Two w a s) (hv : Bts w (.slice (some ⟨b, off, none⟩) 128 c) zs) :
    Calls Tryz.prog 17 #[.slice (some ⟨b, off, none⟩) 128 c] w fun e w' => e = .returned (.tuple #[.agg #[.int .i64 0, .int .i64 0, .int .i64 0, .int .i64 0, .slice none 0 0], .int .i64 6]) ∧ Below w.heap.size w w' := by
  have hb0 := belowA w (.cells #[.int .i64 0, .int .i64 0, .int .i64 0, .int .i64 0, .slice none 0 0] 41)
  have hx : (w.alloc (.cells #[.int .i64 0, .int .i64 0, .int .i64 0, .int .i64 0, .slice none 0 0] 41)).heap[w.heap.size]? = some (.cells #[.int .i64 0, .int .i64 0, .int .i64 0, .int .i64 0, .slice none 0 0] 41 (0, 0)) := heap_alloc_new _ _
  have HV : Hid (Bts _ _ _) := hv.below hb0
  have HT0 : Hid (Two _ _ _) := hT.below hb0
  clear hv
  go_enter Tryz.func17, Tryz.ntmps17
  go_wp2_with fail
  refine (decodeForm_sum zs hl hz hne s b off c _ HT0.out.sum HV.out).mono ?_
  rintro e w1 ⟨⟨pb, rfl, hpe⟩, hb1⟩
  have hx1 := (hb1.block _ (Array.getElem?_eq_some_iff.1 hx).1).trans hx
  have hB1 := hb0.trans (hb1.mono hb0.size)
  have HPE : Hid (Flt w1 s (.iface 92 (.pointer (some ⟨pb, 0, none⟩)))) := ⟨pb, rfl, hpe⟩
  have hnil := fun w => run_neq_iface_nil (P := Tryz.prog) (w := w) 65 (by kernel_rfl) 92 (.pointer (some ⟨pb, 0, none⟩))
  clear hb0 hx hb1 HV HT0 hpe
  go_wp2_with fail
  refine (codeOf_sum (hT.below hB1) HPE.out).mono ?_
  rintro e w2 ⟨rfl, hb2⟩
  have hx2 := (hb2.block _ (Array.getElem?_eq_some_iff.1 hx1).1).trans hx1
  have hB2 := hB1.trans (hb2.mono hB1.size)
  have hcy : w2.cell? ⟨w.heap.size, 0, none⟩ = some (.int .i64 0) ∧ w2.cell? ⟨w.heap.size, 1, none⟩ = some (.int .i64 0) ∧ w2.cell? ⟨w.heap.size, 2, none⟩ = some (.int .i64 0) ∧ w2.cell? ⟨w.heap.size, 3, none⟩ = some (.int .i64 0) ∧ w2.cell? ⟨w.heap.size, 4, none⟩ = some (.slice none 0 0) := by simp [World.cell?, hx2]
  obtain ⟨q0, q1, q2, q3, q4⟩ := hcy
  have hfy : ∀ i, w2.frozen? ⟨w.heap.size, i, none⟩ = false := fun i => frozen_of_row w2 _ i _ _ hx2
  have z0 := hfy 0
  have z1 := hfy 1
  have z2 := hfy 2
  have z3 := hfy 3
  have z4 := hfy 4
  have HB3 : Hid (Below w.heap.size w (((((w2.setCell ⟨w.heap.size, 0, none⟩ (.int .i64 0)).setCell ⟨w.heap.size, 1, none⟩ (.int .i64 0)).setCell ⟨w.heap.size, 2, none⟩ (.int .i64 0)).setCell ⟨w.heap.size, 3, none⟩ (.int .i64 0)).setCell ⟨w.heap.size, 4, none⟩ (.slice none 0 0))) := (((((hB2).setCell (p := ⟨w.heap.size, 0, none⟩) (Nat.le_refl _) _).setCell (p := ⟨w.heap.size, 1, none⟩) (Nat.le_refl _) _).setCell (p := ⟨w.heap.size, 2, none⟩) (Nat.le_refl _) _).setCell (p := ⟨w.heap.size, 3, none⟩) (Nat.le_refl _) _).setCell (p := ⟨w.heap.size, 4, none⟩) (Nat.le_refl _) _
  clear hx1 hx2 hB1 hb2 hB2 hT hfy
  go_wp2
  exact bodyPost_ret (v := .tuple #[.agg #[.int .i64 0, .int .i64 0, .int .i64 0, .int .i64 0, .slice none 0 0], .int .i64 6]) (by simp [results, Tryz.results17, go_sem, q0, q1, q2, q3, q4]) rfl ⟨rfl, HB3.out⟩

set_option maxRecDepth 100000 in
set_option maxHeartbeats 1000000 in
theorem implDecN_sum (zs : List Int) (hl : zs.length = 128) (hz : Byt zs) (hne : ¬ putL zs 124 (crcOf (zs.take 124)) 4 = zs) {a s : Addr} (b off c : Nat) (w : World) (hT : Two w a s) (hv : Bts w (.slice (some ⟨b, off, none⟩) 128 c) zs) :
    Calls Tryz.prog 7 #[.slice (some ⟨b, off, none⟩) 128 c] w fun e w' => e = .returned (.tuple #[.agg #[.int .i64 0, .slice none 0 0], .int .i64 6]) ∧ Below w.heap.size w w' := by
  have hb0 := belowA w (.cells #[.int .i64 0, .slice none 0 0] 25)
  have hx : (w.alloc (.cells #[.int .i64 0, .slice none 0 0] 25)).heap[w.heap.size]? = some (.cells #[.int .i64 0, .slice none 0 0] 25 (0, 0)) := heap_alloc_new _ _
  have HV : Hid (Bts _ _ _) := hv.below hb0
  have HT0 : Hid (Two _ _ _) := hT.below hb0
  clear hv
  go_enter Tryz.func7, Tryz.ntmps7
  go_wp2_with fail
  refine (decodeForm_sum zs hl hz hne s b off c _ HT0.out.sum HV.out).mono ?_
  rintro e w1 ⟨⟨pb, rfl, hpe⟩, hb1⟩
  have hx1 := (hb1.block _ (Array.getElem?_eq_some_iff.1 hx).1).trans hx
  have hB1 := hb0.trans (hb1.mono hb0.size)
  have HPE : Hid (Flt w1 s (.iface 92 (.pointer (some ⟨pb, 0, none⟩)))) := ⟨pb, rfl, hpe⟩
  have hnil := fun w => run_neq_iface_nil (P := Tryz.prog) (w := w) 65 (by kernel_rfl) 92 (.pointer (some ⟨pb, 0, none⟩))
  clear hb0 hx hb1 HV HT0 hpe
  go_wp2_with fail
  refine (codeOf_sum (hT.below hB1) HPE.out).mono ?_
  rintro e w2 ⟨rfl, hb2⟩
  have hx2 := (hb2.block _ (Array.getElem?_eq_some_iff.1 hx1).1).trans hx1
  have hB2 := hB1.trans (hb2.mono hB1.size)
  have hcy : w2.cell? ⟨w.heap.size, 0, none⟩ = some (.int .i64 0) ∧ w2.cell? ⟨w.heap.size, 1, none⟩ = some (.slice none 0 0) := by simp [World.cell?, hx2]
  obtain ⟨q0, q1⟩ := hcy
  have hfy : ∀ i, w2.frozen? ⟨w.heap.size, i, none⟩ = false := fun i => frozen_of_row w2 _ i _ _ hx2
  have z0 := hfy 0
  have z1 := hfy 1
  have HB3 : Hid (Below w.heap.size w ((w2.setCell ⟨w.heap.size, 0, none⟩ (.int .i64 0)).setCell ⟨w.heap.size, 1, none⟩ (.slice none 0 0))) := ((hB2).setCell (p := ⟨w.heap.size, 0, none⟩) (Nat.le_refl _) _).setCell (p := ⟨w.heap.size, 1, none⟩) (Nat.le_refl _) _
  clear hx1 hx2 hB1 hb2 hB2 hT hfy
  go_wp2
  exact bodyPost_ret (v := .tuple #[.agg #[.int .i64 0, .slice none 0 0], .int .i64 6]) (by simp [results, Tryz.results7, go_sem, q0, q1]) rfl ⟨rfl, HB3.out⟩
end Go.Proofs.YtfbjagjgofdheaaGreatDoor

namespace Go.Proofs.YtfbjagjgofdheaaGreatDoor
open Go.ChangeShapes Go.WideShapes Go.ChangeAt Go.RowKit

theorem own : ownKnob Tryz.prog.godebug = none := by kernel_rfl
theorem laidOut : laidOutB Tryz.prog = true := by kernel_rfl

/-- what the walk is told of a slice of integers that came in -/
def IsRow (k : IntKind) (w : World) (a : Option Addr) (len cap : Nat) (zs : List Int) : Prop :=
  (a = none ∧ len = 0 ∧ cap = 0 ∧ zs = []) ∨
  ∃ x, a = some x ∧ len ≤ cap ∧ cap ≤ maxLen ∧ zs.length = cap ∧ (∀ i, i < zs.length → w.cell? (x.add i) = some (.int k (zs.getD i 0))) ∧ ∀ n ∈ zs, (Lit.int k n).wf = true

theorem isRow_bts {w : World} {a : Option Addr} {len cap : Nat} {zs : List Int} (h : IsRow .u8 w a len cap zs) : ∃ ys, ys.length = len ∧ Bts w (.slice a len cap) ys := by
  rcases h with ⟨rfl, rfl, rfl, rfl⟩ | ⟨x, rfl, hl, hm, hz, hcell, hwz⟩
  · exact ⟨[], rfl, fun i => by simp, _, _, rfl, fun h => by simp at h⟩
  · have hlen : (zs.take len).length = len := by simp; omega
    refine ⟨zs.take len, hlen, fun i => ?_, _, _, by rw [hlen], fun hp => ?_⟩
    · have hr := range_u8 hwz i
      by_cases hi : i < len
      · simp only [List.getD_eq_getElem?_getD, List.getElem?_take, if_pos hi]; omega
      · simp only [List.getD_eq_getElem?_getD, List.getElem?_take, if_neg hi]; simp
    · rw [hlen] at hp
      obtain ⟨b, off, spot⟩ := x
      have hc := hcell 0 (by omega)
      have hspot : spot = none := by simpa [Addr.add] using World.cell?_spot hc
      subst hspot
      refine ⟨b, off, rfl, fun i hi => ?_⟩
      rw [hlen] at hi
      have hthis := hcell i (by omega)
      have e : (({ block := b, off := off, spot := none } : Addr).add i) = ⟨b, off + i, none⟩ := by
        unfold Addr.add; by_cases h0 : i = 0 <;> simp [h0]
      rw [e] at hthis
      rw [hthis]
      simp only [List.getD_eq_getElem?_getD, List.getElem?_take, if_pos hi]

theorem maxLen_le {n : Nat} (h : n ≤ maxLen) : n ≤ 9223372036854775807 := by unfold maxLen at h; omega


/-- bytes out of a reading -/
theorem bytes_of_trod {H : Type} {enc : TypeId × Value → H} {w : World} {base fuel : Nat} {cs : List Value} {y : DataW H × List MemPlace} (h : DataW.trod enc Tryz.prog w base (fun _ => true) true fuel 22 cs = some y) :
    ∃ a cap zs, cs = [.slice a zs.length cap] ∧ zs.length ≤ 9223372036854775807 ∧ zs.length ≤ cap ∧ Bts w (.slice a zs.length cap) zs := by
  have hk : ∃ a n cap zs, cs = [.slice a n cap] ∧ IsRow .u8 w a n cap zs := by
    rcases open_ints Tryz.underlying22 Tryz.underlying5 (by kernel_rfl) h with ⟨hcs, _⟩ | ⟨x, l, c, zs, hcs, _, hl, hm, hz, _, hcell, hwz⟩
    · exact ⟨_, _, _, [], hcs, .inl ⟨rfl, rfl, rfl, rfl⟩⟩
    · exact ⟨_, _, _, zs, hcs, .inr ⟨_, rfl, hl, hm, by simpa using hz, hcell, hwz⟩⟩
  obtain ⟨a, n, cap, zs, hcs, hr⟩ := hk
  obtain ⟨ys, hl, hb⟩ := isRow_bts hr
  subst hl
  refine ⟨a, cap, ys, hcs, ?_, ?_, hb⟩
  · rcases hr with ⟨_, h1, _⟩ | ⟨_, _, h1, h2, _⟩
    · omega
    · have := maxLen_le h2; omega
  · rcases hr with ⟨_, h1, h2, _⟩ | ⟨_, _, h1, _⟩
    · omega
    · exact h1

set_option maxRecDepth 100000 in
/-- an argument of bytes -/
theorem bytes_arg {H : Type} {enc : TypeId × Value → H} {w : World} {base b0 : Nat} {r : Reach} {v : Value} {d : DataW H} {p : List MemPlace} (hv : Value.okWide Tryz.prog w r b0 22 v) (h : DataW.Trod enc Tryz.prog w base (fun _ => true) true 22 v d p) :
    ∃ a cap zs, v = .slice a (List.length zs) cap ∧ zs.length ≤ 9223372036854775807 ∧ Bts w v zs := by
  obtain ⟨a, len, cap, rfl⟩ := okWide_slice Tryz.underlying22 hv
  obtain ⟨fuel, hf⟩ := h
  obtain ⟨a', cap', zs, he, h1, _, h2⟩ := bytes_of_trod hf
  simp [Value.cells] at he
  obtain ⟨rfl, rfl, rfl⟩ := he
  exact ⟨a, cap, zs, rfl, h1, h2⟩
end Go.Proofs.YtfbjagjgofdheaaGreatDoor
