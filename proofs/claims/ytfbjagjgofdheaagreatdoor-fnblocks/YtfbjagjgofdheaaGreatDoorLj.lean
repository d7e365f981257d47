import Derived.Test.YtfbjagjgofdheaaGreatDoorLi
import Derived.Test.YtfbjagjgofdheaaGreatDoorLb
import Derived.Test.YtfbjagjgofdheaaGreatDoorCd3
import Derived.Test.YtfbjagjgofdheaaGreatDoorKb
import Derived.Test.YtfbjagjgofdheaaGreatDoorInv
namespace Go.Proofs.YtfbjagjgofdheaaGreatDoor
open Go.RowKit
set_option linter.unusedVariables false


/-- spec.DecodeSuper at work -/
structure DsS (w W : World) (X : Nat) (N g nx tb : Int) (v : Value) (rs : List R2) : Prop where
  res : W.heap[w.heap.size]? = some (.cells #[.int .i64 0, .int .i64 0, .int .i64 0, .int .i64 0, .slice none 0 0] 41 (0, 0))
  box : W.heap[X]? = some (.cells #[.int .i64 N, .int .i64 g, .int .i64 nx, .int .i64 tb, v] 41 (0, 0))
  own : W.ownsRow (X + 1) 46 2 v rs.length (rs.flatMap flat2)
  hX : w.heap.size < X
  below : Below w.heap.size w W

set_option maxRecDepth 100000 in
set_option maxHeartbeats 4000000 in
theorem specDecS (a : Option Addr) (c : Nat) (zs : List Int) (w : World) (hv : Bts w (.slice a zs.length c) zs) (hl : zs.length ≤ 1048576) (hc : zs.length ≤ c) :
    Calls Tryz.prog 14 #[.slice a zs.length c] w fun e w' => ((∃ x, e = .returned (.tuple #[.agg #[.int .i64 0, .int .i64 0, .int .i64 0, .int .i64 0, .slice none 0 0], .int .i64 x]) ∧ x ≠ 0) ∨ (∃ N g nx tb rs a c, e = .returned (.tuple #[.agg #[.int .i64 N, .int .i64 g, .int .i64 nx, .int .i64 tb, .slice a rs.length c], .int .i64 0]) ∧ TRead w' (.slice a rs.length c) rs ∧ spOK N g nx tb rs ∧ zs = supL N g nx tb rs)) ∧ Below w.heap.size w w' := by
  have hb0 := belowA w (.cells #[.int .i64 0, .int .i64 0, .int .i64 0, .int .i64 0, .slice none 0 0] 41)
  have hx : (w.alloc (.cells #[.int .i64 0, .int .i64 0, .int .i64 0, .int .i64 0, .slice none 0 0] 41)).heap[w.heap.size]? = some (.cells #[.int .i64 0, .int .i64 0, .int .i64 0, .int .i64 0, .slice none 0 0] 41 (0, 0)) := heap_alloc_new _ _
  have HV : Hid (∀ X : World, Below w.heap.size w X → Bts X (.slice a zs.length c) zs) := fun X h => hv.below h
  go_enter Tryz.func14, Tryz.ntmps14
  go_wp2_with fail
  refine (l2Sum_some a c zs _ (HV.out _ hb0) hl hc).mono ?_
  rintro e w1 ⟨⟨x, rfl, hx8⟩, hb1⟩
  have hx1 := (hb1.block _ (Array.getElem?_eq_some_iff.1 hx).1).trans hx
  have hB1 := hb0.trans (hb1.mono hb0.size)
  clear hb0 hx hb1
  by_cases hx0 : x = 0
  case neg =>
    have hxn : (x != 0) = true := by simpa using hx0
    have HXN : Hid (x ≠ 0) := hx0
    have hcy : w1.cell? ⟨w.heap.size, 0, none⟩ = some (.int .i64 0) ∧ w1.cell? ⟨w.heap.size, 1, none⟩ = some (.int .i64 0) ∧ w1.cell? ⟨w.heap.size, 2, none⟩ = some (.int .i64 0) ∧ w1.cell? ⟨w.heap.size, 3, none⟩ = some (.int .i64 0) ∧ w1.cell? ⟨w.heap.size, 4, none⟩ = some (.slice none 0 0) := by simp [World.cell?, hx1]
    obtain ⟨q0, q1, q2, q3, q4⟩ := hcy
    have hfy : ∀ i, w1.frozen? ⟨w.heap.size, i, none⟩ = false := fun i => frozen_of_row w1 _ i _ _ hx1
    have z0 := hfy 0
    have z1 := hfy 1
    have z2 := hfy 2
    have z3 := hfy 3
    have z4 := hfy 4
    have HB3 : Hid (Below w.heap.size w (((((w1.setCell ⟨w.heap.size, 0, none⟩ (.int .i64 0)).setCell ⟨w.heap.size, 1, none⟩ (.int .i64 0)).setCell ⟨w.heap.size, 2, none⟩ (.int .i64 0)).setCell ⟨w.heap.size, 3, none⟩ (.int .i64 0)).setCell ⟨w.heap.size, 4, none⟩ (.slice none 0 0))) := (((((hB1).setCell (p := ⟨w.heap.size, 0, none⟩) (Nat.le_refl _) _).setCell (p := ⟨w.heap.size, 1, none⟩) (Nat.le_refl _) _).setCell (p := ⟨w.heap.size, 2, none⟩) (Nat.le_refl _) _).setCell (p := ⟨w.heap.size, 3, none⟩) (Nat.le_refl _) _).setCell (p := ⟨w.heap.size, 4, none⟩) (Nat.le_refl _) _
    clear hx1 hB1 hfy hx8 hx0 hv
    go_wp2
    exact bodyPost_ret (v := .tuple #[.agg #[.int .i64 0, .int .i64 0, .int .i64 0, .int .i64 0, .slice none 0 0], .int .i64 x]) (by simp [results, Tryz.results14, go_sem, q0, q1, q2, q3, q4]) rfl ⟨.inl ⟨x, rfl, HXN.out⟩, HB3.out⟩
  subst hx0
  have h8 : zs.length = 128 := hx8 rfl
  rw [h8] at HV
  obtain ⟨_, _, he, hcc⟩ := hv.shape
  simp only [Value.slice.injEq] at he
  obtain ⟨rfl, -, rfl⟩ := he
  obtain ⟨b, off, rfl, hcell⟩ := hcc (by omega)
  have hz1 := hv.small 1
  obtain ⟨m, hm⟩ : ∃ m : Nat, zs.getD 1 0 = m := ⟨(zs.getD 1 0).toNat, by omega⟩
  have HB1 : Hid (∀ X : World, Below w.heap.size w X → X.cell? ⟨b, off + 1, none⟩ = some (.int .u8 m)) := fun X h => by
    have q := hcell 1 (by omega)
    rw [hm] at q
    exact (h.cell (p := ⟨b, off + 1, none⟩) (World.block_lt_of_cell? _ _ q)).trans q
  have hwm : IntKind.i64.wrap (m : Int) = m := IntWalk.i64_in _ ⟨by omega, by omega⟩
  have HA : Hid (∀ X : World, Below w.heap.size w X → Hid (∀ at' width : Nat, at' + width ≤ 128 → width ≤ 8 → Calls Tryz.prog 21 #[.slice (some ⟨b, off, none⟩) 128 c, .int .i64 at', .int .i64 width] X fun e w' => (∃ x, e = .returned (.int .i64 x)) ∧ X = w')) := fun X h at' width h1 h2 => by
    have q := l2At_some b off c at' width zs X (hv.below h) h2 (by omega) (by omega)
    rw [h8] at q
    exact q
  have HBY : Hid (Byt zs) := hv.small
  clear hcc hcell hx8 hv hz1 hm
  rw [h8]
  have h1 : Calls Tryz.prog 21 #[.slice (some ⟨b, off, none⟩) 128 c, .int .i64 2, .int .i64 2] w1 fun e w' => (∃ x, e = .returned (.int .i64 x)) ∧ w1 = w' := (HA.out w1 hB1).out 2 2 (by omega) (by omega)
  go_wp2_with fail
  refine h1.mono ?_
  rintro e w2 ⟨⟨N, rfl⟩, rfl⟩
  clear h1
  have h2 : Calls Tryz.prog 21 #[.slice (some ⟨b, off, none⟩) 128 c, .int .i64 4, .int .i64 8] w1 fun e w' => (∃ x, e = .returned (.int .i64 x)) ∧ w1 = w' := (HA.out w1 hB1).out 4 8 (by omega) (by omega)
  go_wp2_with fail
  refine h2.mono ?_
  rintro e w2 ⟨⟨g, rfl⟩, rfl⟩
  clear h2
  have h3 : Calls Tryz.prog 21 #[.slice (some ⟨b, off, none⟩) 128 c, .int .i64 12, .int .i64 2] w1 fun e w' => (∃ x, e = .returned (.int .i64 x)) ∧ w1 = w' := (HA.out w1 hB1).out 12 2 (by omega) (by omega)
  go_wp2_with fail
  refine h3.mono ?_
  rintro e w2 ⟨⟨nx, rfl⟩, rfl⟩
  clear h3
  have h4 : Calls Tryz.prog 21 #[.slice (some ⟨b, off, none⟩) 128 c, .int .i64 14, .int .i64 2] w1 fun e w' => (∃ x, e = .returned (.int .i64 x)) ∧ w1 = w' := (HA.out w1 hB1).out 14 2 (by omega) (by omega)
  go_wp2_with fail
  refine h4.mono ?_
  rintro e w2 ⟨⟨tb, rfl⟩, rfl⟩
  clear h4
  have hb3 := belowA w1 (.cells #[.int .i64 N, .int .i64 g, .int .i64 nx, .int .i64 tb, .slice none 0 0] 41)
  have hD0 : DsS w (w1.alloc (.cells #[.int .i64 N, .int .i64 g, .int .i64 nx, .int .i64 tb, .slice none 0 0] 41)) w1.heap.size N g nx tb (.slice none 0 0) [] := ⟨(hb3.block _ (Array.getElem?_eq_some_iff.1 hx1).1).trans hx1, heap_alloc_new _ _, World.ownsRow_nil _ _ _ _, (Array.getElem?_eq_some_iff.1 hx1).1, hB1.trans (hb3.mono hB1.size)⟩
  obtain ⟨X, HXX⟩ : ∃ X, Hid (w1.heap.size = X) := ⟨_, rfl⟩
  rw [HXX.out] at hD0
  have HD0 : Hid _ := hD0
  clear hx1 hB1 hb3 hD0
  go_wp2_with fail
  rw [HXX.out]
  generalize w1.alloc (.cells #[.int .i64 N, .int .i64 g, .int .i64 nx, .int .i64 tb, .slice none 0 0] 41) = W0 at *
  go_loopw [6] (fun i wr => ∃ (rs : List R2) (v : Value), rs.length ≤ 16 ∧ i = .int .i64 rs.length ∧ DsS w wr X N g nx tb v rs) (fun i _ => 16 - (intOf i).toNat)
  case atStart => exact ⟨[], _, by simp, rfl, HD0.out⟩
  case round =>
    obtain ⟨rs, v, hk, rfl, hD⟩ := hrel
    clear HD0
    obtain ⟨k, hkk⟩ : ∃ k, rs.length = k := ⟨_, rfl⟩
    obtain ⟨va, vc, hva, hvf⟩ := owns_form hD.own
    rw [hkk] at hva hk ⊢
    subst hva
    have hbx := hD.box
    have hlt : X < wr.heap.size := (Array.getElem?_eq_some_iff.1 hbx).1
    have b1 := HB1.out wr hD.below
    have HAA := HA.out wr hD.below
    have hown := hD.own
    have hres := hD.res
    have hXX := hD.hX
    have hbw := hD.below
    rw [hkk] at hown
    clear hD
    by_cases hgo : k < m ∧ k < 16
    · have hg1 : (k : Int) < (m : Int) := by omega
      have hg2 : (k : Int) < 16 := by omega
      have xv : wr.cell? ⟨X, 4, none⟩ = some (.slice va k vc) := (cell_of_row wr X 4 _ _ _ hbx).trans rfl
      obtain ⟨y, HY⟩ : ∃ y : Nat, Hid (y = 16 + 4 * k) := ⟨_, rfl⟩
      obtain ⟨y2, HY2⟩ : ∃ y2 : Nat, Hid (y2 = y + 2) := ⟨_, rfl⟩
      have m1 : IntKind.i64.wrap (4 * (k : Int)) = 4 * (k : Int) := IntWalk.i64_in _ ⟨by omega, by omega⟩
      have m2 : IntKind.i64.wrap (16 + 4 * (k : Int)) = (y : Int) := (IntWalk.i64_in _ ⟨by omega, by omega⟩).trans (by have := HY.out; omega)
      have m3 : IntKind.i64.wrap (18 + 4 * (k : Int)) = (y2 : Int) := (IntWalk.i64_in _ ⟨by omega, by omega⟩).trans (by have := HY.out; have := HY2.out; omega)
      have HAD := HA.out wr.drew hbw.drew
      go_wp2_with fail
      refine wp_region_E (fun w' => w'.cell? ⟨X, 4, none⟩ = some (.slice va k vc)) 16 (by kernel_rfl) ?_
      have hq0 : (fun w' : World => w'.cell? ⟨X, 4, none⟩ = some (.slice va k vc)) wr.drew := xv
      refine wpAnyE_take (i := 0) 36 (.pointer (some ⟨X, 4, none⟩)) (by kernel_rfl) rfl (by kernel_rfl) (by kernel_rfl) (by kernel_rfl) (fun _ _ _ h => h) rfl rfl hq0 (fun w' hw => by have m0 : w'.cell? ⟨X, 4, none⟩ = some (.slice va k vc) := hw; go_simp <;> first | omega | kernel_rfl | decide) ?_
      simp only [Act.put, List.setIfInBounds_toArray, List.set_cons_zero, List.set_cons_succ]
      refine wpAnyE_take (i := 1) 37 (.slice va k vc) (by kernel_rfl) rfl (by kernel_rfl) (by kernel_rfl) (by kernel_rfl) (fun _ _ _ h => h) rfl rfl hq0 (fun w' hw => by have m0 : w'.cell? ⟨X, 4, none⟩ = some (.slice va k vc) := hw; go_simp <;> first | omega | kernel_rfl | decide) ?_
      simp only [Act.put, List.setIfInBounds_toArray, List.set_cons_zero, List.set_cons_succ]
      refine wpAnyE_take (i := 2) 38 (.slice (some ⟨b, off, none⟩) 128 c) (by kernel_rfl) rfl (by kernel_rfl) (by kernel_rfl) (by kernel_rfl) (fun _ _ _ h => h) rfl rfl hq0 (fun w' hw => by have m0 : w'.cell? ⟨X, 4, none⟩ = some (.slice va k vc) := hw; go_simp <;> first | omega | kernel_rfl | decide) ?_
      simp only [Act.put, List.setIfInBounds_toArray, List.set_cons_zero, List.set_cons_succ]
      refine wpAnyE_take (i := 3) 39 (.int .i64 k) (by kernel_rfl) rfl (by kernel_rfl) (by kernel_rfl) (by kernel_rfl) (fun _ _ _ h => h) rfl rfl hq0 (fun w' hw => by have m0 : w'.cell? ⟨X, 4, none⟩ = some (.slice va k vc) := hw; go_simp <;> first | omega | kernel_rfl | decide) ?_
      simp only [Act.put, List.setIfInBounds_toArray, List.set_cons_zero, List.set_cons_succ]
      refine wpAnyE_take (i := 4) 40 (.int .i64 (4 * (k : Int))) (by kernel_rfl) rfl (by kernel_rfl) (by kernel_rfl) (by kernel_rfl) (fun _ _ _ h => h) rfl rfl hq0 (fun w' hw => by have m0 : w'.cell? ⟨X, 4, none⟩ = some (.slice va k vc) := hw; go_simp <;> first | omega | kernel_rfl | decide) ?_
      simp only [Act.put, List.setIfInBounds_toArray, List.set_cons_zero, List.set_cons_succ]
      refine wpAnyE_take (i := 5) 41 (.int .i64 y) (by kernel_rfl) rfl (by kernel_rfl) (by kernel_rfl) (by kernel_rfl) (fun _ _ _ h => h) rfl rfl hq0 (fun w' hw => by have m0 : w'.cell? ⟨X, 4, none⟩ = some (.slice va k vc) := hw; go_simp <;> first | omega | kernel_rfl | decide) ?_
      simp only [Act.put, List.setIfInBounds_toArray, List.set_cons_zero, List.set_cons_succ]
      refine wpAnyE_take (i := 7) 43 (.slice (some ⟨b, off, none⟩) 128 c) (by kernel_rfl) rfl (by kernel_rfl) (by kernel_rfl) (by kernel_rfl) (fun _ _ _ h => h) rfl rfl hq0 (fun w' hw => by have m0 : w'.cell? ⟨X, 4, none⟩ = some (.slice va k vc) := hw; go_simp <;> first | omega | kernel_rfl | decide) ?_
      simp only [Act.put, List.setIfInBounds_toArray, List.set_cons_zero, List.set_cons_succ]
      refine wpAnyE_take (i := 8) 44 (.int .i64 k) (by kernel_rfl) rfl (by kernel_rfl) (by kernel_rfl) (by kernel_rfl) (fun _ _ _ h => h) rfl rfl hq0 (fun w' hw => by have m0 : w'.cell? ⟨X, 4, none⟩ = some (.slice va k vc) := hw; go_simp <;> first | omega | kernel_rfl | decide) ?_
      simp only [Act.put, List.setIfInBounds_toArray, List.set_cons_zero, List.set_cons_succ]
      refine wpAnyE_take (i := 9) 45 (.int .i64 (4 * (k : Int))) (by kernel_rfl) rfl (by kernel_rfl) (by kernel_rfl) (by kernel_rfl) (fun _ _ _ h => h) rfl rfl hq0 (fun w' hw => by have m0 : w'.cell? ⟨X, 4, none⟩ = some (.slice va k vc) := hw; go_simp <;> first | omega | kernel_rfl | decide) ?_
      simp only [Act.put, List.setIfInBounds_toArray, List.set_cons_zero, List.set_cons_succ]
      refine wpAnyE_take (i := 10) 46 (.int .i64 y2) (by kernel_rfl) rfl (by kernel_rfl) (by kernel_rfl) (by kernel_rfl) (fun _ _ _ h => h) rfl rfl hq0 (fun w' hw => by have m0 : w'.cell? ⟨X, 4, none⟩ = some (.slice va k vc) := hw; go_simp <;> first | omega | kernel_rfl | decide) ?_
      simp only [Act.put, List.setIfInBounds_toArray, List.set_cons_zero, List.set_cons_succ]
      refine wpAnyE_one (i := 6) (by kernel_rfl) rfl rfl (fun K2 hK2 => ?_)
      go_simp
      refine (HAD.out y 2 (by have := HY.out; omega) (by omega)).mono ?_
      rintro e w1 ⟨⟨x1, rfl⟩, rfl⟩
      refine hK2 _ _ (fun _ => hq0) ?_
      clear hK2 K2
      try simp only [Act.put, List.setIfInBounds_toArray, List.set_cons_zero, List.set_cons_succ]
      refine wpAnyE_one (i := 11) (by kernel_rfl) rfl rfl (fun K2 hK2 => ?_)
      go_simp
      refine (HAD.out y2 2 (by have := HY.out; have := HY2.out; omega) (by omega)).mono ?_
      rintro e w1 ⟨⟨x2, rfl⟩, rfl⟩
      refine hK2 _ _ (fun _ => hq0) ?_
      clear hK2 K2
      try simp only [Act.put, List.setIfInBounds_toArray, List.set_cons_zero, List.set_cons_succ]
      refine wpAnyE_take (i := 12) 48 (.agg #[.int .i64 x1, .int .i64 x2]) (by kernel_rfl) rfl (by kernel_rfl) (by kernel_rfl) (by kernel_rfl) (fun _ _ _ h => h) rfl rfl hq0 (fun w' hw => by have m0 : w'.cell? ⟨X, 4, none⟩ = some (.slice va k vc) := hw; go_simp <;> first | omega | kernel_rfl | decide) ?_
      simp only [Act.put, List.setIfInBounds_toArray, List.set_cons_zero, List.set_cons_succ]
      refine wpAnyE_one (i := 13) (by kernel_rfl) rfl rfl (fun K2 hK2 => ?_)
      go_simp
      obtain ⟨Wb, HWb⟩ : ∃ Wb, Hid (Wb = (wr.alloc (.cells #[.int .i64 x1, .int .i64 x2] 46)).drew) := ⟨_, rfl⟩
      have hbb : Below wr.heap.size wr Wb := by rw [HWb.out]; exact (belowA _ _).drew
      have hnw : Wb.heap[wr.heap.size]? = some (.cells #[.int .i64 x1, .int .i64 x2] 46 (0, 0)) := by rw [HWb.out]; exact heap_alloc_new _ _
      have hXb := (hbb.block X hlt).trans hbx
      have hrb := (hbb.block _ (Array.getElem?_eq_some_iff.1 hres).1).trans hres
      have hbwb : Below w.heap.size w Wb := hbw.trans (hbb.mono hbw.size)
      have hownb := owns_below hown hbb
      rw [← HWb.out]
      clear HWb
      have hq1 : (fun w' : World => w'.cell? ⟨X, 4, none⟩ = some (.slice va k vc)) Wb := (cell_of_row Wb X 4 _ _ _ hXb).trans rfl
      refine hK2 _ _ (fun _ => hq1) ?_
      clear hK2 K2
      refine wpAnyE_one (i := 14) (by kernel_rfl) rfl rfl (fun K2 hK2 => ?_)
      have hlb : X + 1 ≤ Wb.heap.size := Nat.le_trans hlt hbb.size
      refine wp_appendT _ _ 39 46 _ 2 16 Tryz.underlying39 infoRoot rfl (by decide) rfl (base := X + 1) hownb rfl ⟨wr.heap.size, 0, none⟩ 1 1 rfl [.int .i64 x1, .int .i64 x2] rfl ?_ (fun u hm => List.all_eq_true.1 (show ([.int .i64 x1, .int .i64 x2] : List Value).all (·.oneCell') = true from rfl) u hm) (by omega) (by omega) hlb ?_
      · intro j u hj
        rw [Addr.add_mid, Nat.zero_add]
        simpa [World.cell?, hnw] using hj
      intro v' w3 hown3 hns3 hbl3
      obtain ⟨ya, yc, rfl, hyf⟩ := owns_form hown3
      have hown4 : w3.ownsRow (X + 1) 46 2 (.slice ya (k + 1) yc) (k + 1) ((rs ++ [(x1, x2)]).flatMap flat2) := by rw [flat_snoc]; exact hown3
      have HOWN4 : Hid _ := hown4
      clear hown3 hown4
      show K2 (Act.put _ (some 50) _) w3
      have hX3 := hns3.cells hXb (by decide)
      have hr3 := hns3.cells hrb (by decide)
      have hbw3 : Below w.heap.size w w3 := hbwb.trans (hbl3.mono (by omega))
      have hq3 : (fun w' : World => w'.cell? ⟨X, 4, none⟩ = some (.slice va k vc)) w3 := (cell_of_row w3 X 4 _ _ _ hX3).trans rfl
      refine hK2 _ _ (fun _ => hq3) ?_
      clear hK2 K2
      simp only [Act.put, List.setIfInBounds_toArray, List.set_cons_zero, List.set_cons_succ]
      refine wpAnyE_take (i := 15) 51 (.pointer (some ⟨X, 4, none⟩)) (by kernel_rfl) rfl (by kernel_rfl) (by kernel_rfl) (by kernel_rfl) (fun _ _ _ h => h) rfl rfl hq3 (fun w' hw => by have m0 : w'.cell? ⟨X, 4, none⟩ = some (.slice va k vc) := hw; go_simp) ?_
      simp only [Act.put, List.setIfInBounds_toArray, List.set_cons_zero, List.set_cons_succ]
      have y1 : w3.cell? ⟨X, 4, none⟩ = some (.slice va k vc) := hq3
      have yf : w3.frozen? ⟨X, 4, none⟩ = false := frozen_of_row w3 X _ _ _ hX3
      refine wpAnyE_one (i := 16) (by kernel_rfl) rfl rfl (fun K2 hK2 => ?_)
      go_simp
      refine hK2 _ _ (fun hne => absurd rfl hne) ?_
      clear hK2 K2
      refine wpAnyE_done (by kernel_rfl) ?_ _
      have hX4 : (w3.setCell ⟨X, 4, none⟩ (.slice ya (k + 1) yc)).heap[X]? = some (.cells #[.int .i64 N, .int .i64 g, .int .i64 nx, .int .i64 tb, .slice ya (k + 1) yc] 41 (0, 0)) := by simpa using heap_setCell_same w3 X 4 _ _ (.slice ya (k + 1) yc) hX3
      have HD4 : Hid (DsS w (w3.setCell ⟨X, 4, none⟩ (.slice ya (k + 1) yc)) X N g nx tb (.slice ya (k + 1) yc) (rs ++ [(x1, x2)])) := by
        refine ⟨(Below.heap_setCell _ ⟨X, 4, none⟩ _ _ (by show w.heap.size ≠ X; omega)).trans hr3, hX4, ?_, hXX, hbw3.setCell (p := ⟨X, 4, none⟩) (by show w.heap.size ≤ X; omega) _⟩
        rw [List.length_append, hkk]
        exact owns_set HOWN4.out _ (by show X < X + 1; omega) _
      clear y1 yf hq3 hq1 hq0 hX3 xv b1 hr3 hX4 HOWN4 hownb
      go_wp2
      go_roundw
      case rel => exact ⟨rs ++ [(x1, x2)], _, by rw [List.length_append, hkk]; show k + 1 ≤ 16; omega, by rw [List.length_append, hkk]; first | rfl | go_num, HD4.out⟩
      case measure => simp [intOf]; omega
    · have hread : TRead wr (.slice va rs.length vc) rs := by
        have q := hown
        rw [← hkk] at q
        exact owns_T q
      have HRR : Hid (TRead wr (.slice va rs.length vc) rs) := hread
      have HF : Hid (Fsh (X + 1) va) := hvf
      have HBOX : Hid _ := hbx
      have hbc : wr.cell? ⟨X, 0, none⟩ = some (.int .i64 N) ∧ wr.cell? ⟨X, 1, none⟩ = some (.int .i64 g) ∧ wr.cell? ⟨X, 2, none⟩ = some (.int .i64 nx) ∧ wr.cell? ⟨X, 3, none⟩ = some (.int .i64 tb) ∧ wr.cell? ⟨X, 4, none⟩ = some (.slice va k vc) := by simp [World.cell?, hbx]
      obtain ⟨x0, x1, x2, x3, x4⟩ := hbc
      have hcond : ¬ (k : Int) < (m : Int) ∨ ((k : Int) < (m : Int) ∧ ¬ (k : Int) < 16) := by omega
      have HEN : Hid (Calls Tryz.prog 35 #[.agg #[.int .i64 N, .int .i64 g, .int .i64 nx, .int .i64 tb, .slice va rs.length vc]] wr fun e w' => ((spOK N g nx tb rs ∧ ∃ u, e = .returned (.tuple #[u, .int .i64 0]) ∧ Row8 wr.heap.size w' u (supL N g nx tb rs)) ∨ (e = .returned (.tuple #[.slice none 0 0, .int .i64 5]))) ∧ Below wr.heap.size wr w') := by
        by_cases hok : spOK N g nx tb rs
        · refine (specEncS_yes N g nx tb va vc rs wr HRR.out hok).mono ?_
          rintro e w' ⟨u, rfl, hR, hb⟩
          exact ⟨.inl ⟨hok, u, rfl, hR⟩, hb⟩
        · refine (specEncS_no N g nx tb va vc rs wr HRR.out (by omega) hok).mono ?_
          rintro e w' ⟨rfl, hb⟩
          exact ⟨.inr rfl, hb⟩
      rw [hkk] at HEN
      clear hown hread hvf hgo HA
      have HEND : Hid (∀ (W : World), Below wr.heap.size wr W → TRead W (.slice va k vc) rs ∧ Below w.heap.size w W ∧ W.heap[w.heap.size]? = some (.cells #[.int .i64 0, .int .i64 0, .int .i64 0, .int .i64 0, .slice none 0 0] 41 (0, 0)) ∧ W.heap[X]? = some (.cells #[.int .i64 N, .int .i64 g, .int .i64 nx, .int .i64 tb, .slice va k vc] 41 (0, 0))) := fun W h => by
        have q := HRR.out.below h
        rw [hkk] at q
        exact ⟨q, hbw.trans (h.mono hbw.size), (h.block _ (by omega)).trans hres, (h.block _ hlt).trans hbx⟩
      have hEE : ∀ (Q : Ending → World → Prop), (∀ e w', (((spOK N g nx tb rs ∧ ∃ u, e = .returned (.tuple #[u, .int .i64 0]) ∧ Row8 wr.heap.size w' u (supL N g nx tb rs)) ∨ (e = .returned (.tuple #[.slice none 0 0, .int .i64 5]))) ∧ Below wr.heap.size wr w') → Q e w') → Calls Tryz.prog 35 #[.agg #[.int .i64 N, .int .i64 g, .int .i64 nx, .int .i64 tb, .slice va k vc]] wr Q := fun Q h => Calls.mono HEN.out h
      clear HEN hbx
      rcases hcond with hc1 | ⟨hc1, hc2⟩
      all_goals
        go_wp2_with fail
        refine hEE _ ?_
        rintro e w2 ⟨⟨hok, u, rfl, hR⟩ | rfl, hb2⟩
        case inr =>
          obtain ⟨-, hB2, hr2, -⟩ := HEND.out w2 hb2
          have hcy : w2.cell? ⟨w.heap.size, 0, none⟩ = some (.int .i64 0) ∧ w2.cell? ⟨w.heap.size, 1, none⟩ = some (.int .i64 0) ∧ w2.cell? ⟨w.heap.size, 2, none⟩ = some (.int .i64 0) ∧ w2.cell? ⟨w.heap.size, 3, none⟩ = some (.int .i64 0) ∧ w2.cell? ⟨w.heap.size, 4, none⟩ = some (.slice none 0 0) := by simp [World.cell?, hr2]
          obtain ⟨q0, q1, q2, q3, q4⟩ := hcy
          have hfy : ∀ i, w2.frozen? ⟨w.heap.size, i, none⟩ = false := fun i => frozen_of_row w2 _ i _ _ hr2
          have z0 := hfy 0
          have z1 := hfy 1
          have z2 := hfy 2
          have z3 := hfy 3
          have z4 := hfy 4
          have HB3 : Hid (Below w.heap.size w (((((w2.setCell ⟨w.heap.size, 0, none⟩ (.int .i64 0)).setCell ⟨w.heap.size, 1, none⟩ (.int .i64 0)).setCell ⟨w.heap.size, 2, none⟩ (.int .i64 0)).setCell ⟨w.heap.size, 3, none⟩ (.int .i64 0)).setCell ⟨w.heap.size, 4, none⟩ (.slice none 0 0))) := (((((hB2).setCell (p := ⟨w.heap.size, 0, none⟩) (Nat.le_refl _) _).setCell (p := ⟨w.heap.size, 1, none⟩) (Nat.le_refl _) _).setCell (p := ⟨w.heap.size, 2, none⟩) (Nat.le_refl _) _).setCell (p := ⟨w.heap.size, 3, none⟩) (Nat.le_refl _) _).setCell (p := ⟨w.heap.size, 4, none⟩) (Nat.le_refl _) _
          clear hr2 hB2 hfy hb2 hEE x0 x1 x2 x3 x4
          go_wp2
          exact bodyPost_ret (v := .tuple #[.agg #[.int .i64 0, .int .i64 0, .int .i64 0, .int .i64 0, .slice none 0 0], .int .i64 5]) (by simp [results, Tryz.results14, go_sem, q0, q1, q2, q3, q4]) rfl ⟨.inl ⟨5, rfl, by decide⟩, HB3.out⟩
        have HOK : Hid (spOK N g nx tb rs) := hok
        obtain ⟨ua, uc, hua⟩ := hR.shape
        subst hua
        obtain ⟨hT2, hB2, hr2, hX2⟩ := HEND.out w2 hb2
        have HT2 : Hid (TRead w2 (.slice va k vc) rs) := hT2
        have hbyt : Byt (supL N g nx tb rs) := (supQ_byt N g nx tb rs HOK.out.2.1.2 _).seal
        have hblen : (supL N g nx tb rs).length = 128 := supL_length HOK.out.2.1.2
        have hsame := l2Same_any ua uc (supL N g nx tb rs) (some ⟨b, off, none⟩) c zs w2 (Row8.bts hR hbyt) (by rw [h8]; exact HV.out w2 hB2) (by omega) (by omega)
        rw [hblen, h8] at hsame
        have HSM : Hid _ := hsame
        rw [hblen] at hR ⊢
        have hcy : w2.cell? ⟨w.heap.size, 0, none⟩ = some (.int .i64 0) ∧ w2.cell? ⟨w.heap.size, 1, none⟩ = some (.int .i64 0) ∧ w2.cell? ⟨w.heap.size, 2, none⟩ = some (.int .i64 0) ∧ w2.cell? ⟨w.heap.size, 3, none⟩ = some (.int .i64 0) ∧ w2.cell? ⟨w.heap.size, 4, none⟩ = some (.slice none 0 0) := by simp [World.cell?, hr2]
        obtain ⟨q0, q1, q2, q3, q4⟩ := hcy
        have hfy : ∀ i, w2.frozen? ⟨w.heap.size, i, none⟩ = false := fun i => frozen_of_row w2 _ i _ _ hr2
        have z0 := hfy 0
        have z1 := hfy 1
        have z2 := hfy 2
        have z3 := hfy 3
        have z4 := hfy 4
        have hbc2 : w2.cell? ⟨X, 0, none⟩ = some (.int .i64 N) ∧ w2.cell? ⟨X, 1, none⟩ = some (.int .i64 g) ∧ w2.cell? ⟨X, 2, none⟩ = some (.int .i64 nx) ∧ w2.cell? ⟨X, 3, none⟩ = some (.int .i64 tb) ∧ w2.cell? ⟨X, 4, none⟩ = some (.slice va k vc) := by simp [World.cell?, hX2]
        obtain ⟨s0, s1, s2, s3, s4⟩ := hbc2
        have HEQ : Hid ((supL N g nx tb rs) = zs ∨ ¬ (supL N g nx tb rs) = zs) := Classical.em _
        have HXW : Hid (w.heap.size < X) := hXX
        clear hok hT2 hR hsame hbyt hblen hfy hr2 hX2 hb2 hEE x0 x1 x2 x3 x4
        generalize hbk : supL N g nx tb rs = bk at *
        go_wp2_with fail
        refine Calls.mono HSM.out ?_
        rintro e w4 ⟨rfl, rfl⟩
        rcases HEQ.out with heq | hne
        · have HQ : Hid (bk = zs) := heq
          have HBK : Hid (supL N g nx tb rs = bk) := hbk
          have hdc : decide (bk = zs) = true := decide_eq_true heq
          have HST : Hid (TRead (((((w2.setCell ⟨w.heap.size, 0, none⟩ (.int .i64 N)).setCell ⟨w.heap.size, 1, none⟩ (.int .i64 g)).setCell ⟨w.heap.size, 2, none⟩ (.int .i64 nx)).setCell ⟨w.heap.size, 3, none⟩ (.int .i64 tb)).setCell ⟨w.heap.size, 4, none⟩ (.slice va k vc)) (.slice va k vc) rs ∧ Below w.heap.size w (((((w2.setCell ⟨w.heap.size, 0, none⟩ (.int .i64 N)).setCell ⟨w.heap.size, 1, none⟩ (.int .i64 g)).setCell ⟨w.heap.size, 2, none⟩ (.int .i64 nx)).setCell ⟨w.heap.size, 3, none⟩ (.int .i64 tb)).setCell ⟨w.heap.size, 4, none⟩ (.slice va k vc))) := by
            have hu : Upd w.heap.size (w.heap.size + 1) w2 (((((w2.setCell ⟨w.heap.size, 0, none⟩ (.int .i64 N)).setCell ⟨w.heap.size, 1, none⟩ (.int .i64 g)).setCell ⟨w.heap.size, 2, none⟩ (.int .i64 nx)).setCell ⟨w.heap.size, 3, none⟩ (.int .i64 tb)).setCell ⟨w.heap.size, 4, none⟩ (.slice va k vc)) := (((((Upd.refl _ _ _).setCell (p := ⟨w.heap.size, 0, none⟩) (Nat.le_refl _) (Nat.lt_succ_self _) _).setCell (p := ⟨w.heap.size, 1, none⟩) (Nat.le_refl _) (Nat.lt_succ_self _) _).setCell (p := ⟨w.heap.size, 2, none⟩) (Nat.le_refl _) (Nat.lt_succ_self _) _).setCell (p := ⟨w.heap.size, 3, none⟩) (Nat.le_refl _) (Nat.lt_succ_self _) _).setCell (p := ⟨w.heap.size, 4, none⟩) (Nat.le_refl _) (Nat.lt_succ_self _) _
            exact ⟨HT2.out.upd (fun p hp => by have := HF.out p hp; have := HXW.out; omega) hu, hB2.trans (hu.below (Nat.le_refl _) hB2.size)⟩
          rw [hdc]
          clear heq hdc hB2 hbk
          go_wp2
          exact bodyPost_ret (v := .tuple #[.agg #[.int .i64 N, .int .i64 g, .int .i64 nx, .int .i64 tb, .slice va k vc], .int .i64 0]) (by simp [results, Tryz.results14, go_sem, q0, q1, q2, q3, q4]) rfl ⟨.inr ⟨N, g, nx, tb, rs, va, vc, by rw [hkk], by rw [hkk]; exact HST.out.1, HOK.out, by rw [HBK.out, HQ.out]⟩, HST.out.2⟩
        · have hdc : decide (bk = zs) = false := decide_eq_false hne
          have HB3 : Hid (Below w.heap.size w (((((w2.setCell ⟨w.heap.size, 0, none⟩ (.int .i64 0)).setCell ⟨w.heap.size, 1, none⟩ (.int .i64 0)).setCell ⟨w.heap.size, 2, none⟩ (.int .i64 0)).setCell ⟨w.heap.size, 3, none⟩ (.int .i64 0)).setCell ⟨w.heap.size, 4, none⟩ (.slice none 0 0))) := (((((hB2).setCell (p := ⟨w.heap.size, 0, none⟩) (Nat.le_refl _) _).setCell (p := ⟨w.heap.size, 1, none⟩) (Nat.le_refl _) _).setCell (p := ⟨w.heap.size, 2, none⟩) (Nat.le_refl _) _).setCell (p := ⟨w.heap.size, 3, none⟩) (Nat.le_refl _) _).setCell (p := ⟨w.heap.size, 4, none⟩) (Nat.le_refl _) _
          rw [hdc]
          clear hne hdc hB2 hbk
          go_wp2
          exact bodyPost_ret (v := .tuple #[.agg #[.int .i64 0, .int .i64 0, .int .i64 0, .int .i64 0, .slice none 0 0], .int .i64 5]) (by simp [results, Tryz.results14, go_sem, q0, q1, q2, q3, q4]) rfl ⟨.inl ⟨5, rfl, by decide⟩, HB3.out⟩
end Go.Proofs.YtfbjagjgofdheaaGreatDoor
