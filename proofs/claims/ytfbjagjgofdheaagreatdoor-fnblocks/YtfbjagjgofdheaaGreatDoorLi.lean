import Derived.Test.YtfbjagjgofdheaaGreatDoorLg
import Derived.Test.YtfbjagjgofdheaaGreatDoorLb
import Derived.Test.YtfbjagjgofdheaaGreatDoorCd3
import Derived.Test.YtfbjagjgofdheaaGreatDoorKb
import Derived.Test.YtfbjagjgofdheaaGreatDoorInv
namespace Go.Proofs.YtfbjagjgofdheaaGreatDoor
open Go.RowKit
set_option linter.unusedVariables false

theorem infoRn : (Tryz.prog.info? 78).map (fun i => (i.zero, i.size, i.bytes)) = some (some (.agg #[.int .i64 0, .int .i64 0, .int .i64 0]), 3, 24) := by kernel_rfl

/-- spec.DecodeTable at work -/
structure DsT (w W : World) (X : Nat) (nx : Int) (v : Value) (rs : List R3) : Prop where
  res : W.heap[w.heap.size]? = some (.cells #[.int .i64 0, .slice none 0 0] 34 (0, 0))
  box : W.heap[X]? = some (.cells #[.int .i64 nx, v] 34 (0, 0))
  own : W.ownsRow (X + 1) 78 3 v rs.length (rs.flatMap flat3)
  hX : w.heap.size < X
  below : Below w.heap.size w W

set_option maxRecDepth 100000 in
set_option maxHeartbeats 4000000 in
theorem specDecT (a : Option Addr) (c : Nat) (zs : List Int) (w : World) (hv : Bts w (.slice a zs.length c) zs) (hl : zs.length ≤ 1048576) (hc : zs.length ≤ c) :
    Calls Tryz.prog 9 #[.slice a zs.length c] w fun e w' => ((∃ x, e = .returned (.tuple #[.agg #[.int .i64 0, .slice none 0 0], .int .i64 x]) ∧ x ≠ 0) ∨ (∃ nx rs a c, e = .returned (.tuple #[.agg #[.int .i64 nx, .slice a rs.length c], .int .i64 0]) ∧ RRead w' (.slice a rs.length c) rs ∧ tbOK nx rs ∧ zs = tabL nx rs)) ∧ Below w.heap.size w w' := by
  have hb0 := belowA w (.cells #[.int .i64 0, .slice none 0 0] 34)
  have hx : (w.alloc (.cells #[.int .i64 0, .slice none 0 0] 34)).heap[w.heap.size]? = some (.cells #[.int .i64 0, .slice none 0 0] 34 (0, 0)) := heap_alloc_new _ _
  have HV : Hid (∀ X : World, Below w.heap.size w X → Bts X (.slice a zs.length c) zs) := fun X h => hv.below h
  go_enter Tryz.func9, Tryz.ntmps9
  go_wp2_with fail
  refine (l2Sum_some a c zs _ (HV.out _ hb0) hl hc).mono ?_
  rintro e w1 ⟨⟨x, rfl, hx8⟩, hb1⟩
  have hx1 := (hb1.block _ (Array.getElem?_eq_some_iff.1 hx).1).trans hx
  have hB1 := hb0.trans (hb1.mono hb0.size)
  clear hb0 hx hb1
  by_cases hx0 : x = 0
  case neg =>
    have hxn : (x != 0) = true := by simpa using hx0
    have HXN : Hid (x ≠ 0) := hx0
    have hcy : w1.cell? ⟨w.heap.size, 0, none⟩ = some (.int .i64 0) ∧ w1.cell? ⟨w.heap.size, 1, none⟩ = some (.slice none 0 0) := by simp [World.cell?, hx1]
    obtain ⟨q0, q1⟩ := hcy
    have hfy : ∀ i, w1.frozen? ⟨w.heap.size, i, none⟩ = false := fun i => frozen_of_row w1 _ i _ _ hx1
    have z0 := hfy 0
    have z1 := hfy 1
    have HB3 : Hid (Below w.heap.size w ((w1.setCell ⟨w.heap.size, 0, none⟩ (.int .i64 0)).setCell ⟨w.heap.size, 1, none⟩ (.slice none 0 0))) := ((hB1).setCell (p := ⟨w.heap.size, 0, none⟩) (Nat.le_refl _) _).setCell (p := ⟨w.heap.size, 1, none⟩) (Nat.le_refl _) _
    clear hx1 hB1 hfy hx8 hx0 hv
    go_wp2
    exact bodyPost_ret (v := .tuple #[.agg #[.int .i64 0, .slice none 0 0], .int .i64 x]) (by simp [results, Tryz.results9, go_sem, q0, q1]) rfl ⟨.inl ⟨x, rfl, HXN.out⟩, HB3.out⟩
  subst hx0
  have h8 : zs.length = 128 := hx8 rfl
  rw [h8] at HV
  obtain ⟨_, _, he, hcc⟩ := hv.shape
  simp only [Value.slice.injEq] at he
  obtain ⟨rfl, -, rfl⟩ := he
  obtain ⟨b, off, rfl, hcell⟩ := hcc (by omega)
  have hz1 := hv.small 1
  obtain ⟨m, hm⟩ : ∃ m : Nat, zs.getD 1 0 = m := ⟨(zs.getD 1 0).toNat, by omega⟩
  have HB1 : Hid (∀ X : World, Below w.heap.size w X → X.cell? ⟨b, off + 1, none⟩ = some (.int .u8 m)) := fun X h => by
    have q := hcell 1 (by omega)
    rw [hm] at q
    exact (h.cell (p := ⟨b, off + 1, none⟩) (World.block_lt_of_cell? _ _ q)).trans q
  have hwm : IntKind.i64.wrap (m : Int) = m := IntWalk.i64_in _ ⟨by omega, by omega⟩
  have HA : Hid (∀ X : World, Below w.heap.size w X → Hid (∀ at' width : Nat, at' + width ≤ 128 → width ≤ 8 → Calls Tryz.prog 21 #[.slice (some ⟨b, off, none⟩) 128 c, .int .i64 at', .int .i64 width] X fun e w' => (∃ x, e = .returned (.int .i64 x)) ∧ X = w')) := fun X h at' width h1 h2 => by
    have q := l2At_some b off c at' width zs X (hv.below h) h2 (by omega) (by omega)
    rw [h8] at q
    exact q
  have HBY : Hid (Byt zs) := hv.small
  clear hcc hcell hx8 hv hz1 hm
  rw [h8]
  have h22 : Calls Tryz.prog 21 #[.slice (some ⟨b, off, none⟩) 128 c, .int .i64 2, .int .i64 2] w1 fun e w' => (∃ x, e = .returned (.int .i64 x)) ∧ w1 = w' := (HA.out w1 hB1).out 2 2 (by omega) (by omega)
  go_wp2_with fail
  refine h22.mono ?_
  rintro e w2 ⟨⟨nx, rfl⟩, rfl⟩
  clear h22
  have hb3 := belowA w1 (.cells #[.int .i64 nx, .slice none 0 0] 34)
  have hD0 : DsT w (w1.alloc (.cells #[.int .i64 nx, .slice none 0 0] 34)) w1.heap.size nx (.slice none 0 0) [] := ⟨(hb3.block _ (Array.getElem?_eq_some_iff.1 hx1).1).trans hx1, heap_alloc_new _ _, World.ownsRow_nil _ _ _ _, (Array.getElem?_eq_some_iff.1 hx1).1, hB1.trans (hb3.mono hB1.size)⟩
  obtain ⟨X, HXX⟩ : ∃ X, Hid (w1.heap.size = X) := ⟨_, rfl⟩
  rw [HXX.out] at hD0
  have HD0 : Hid _ := hD0
  clear hx1 hB1 hb3 hD0
  go_wp2_with fail
  rw [HXX.out]
  generalize w1.alloc (.cells #[.int .i64 nx, .slice none 0 0] 34) = W0 at *
  go_loopw [6, 7] (fun i _ wr => ∃ (rs : List R3) (v : Value), rs.length ≤ 20 ∧ i = .int .i64 rs.length ∧ DsT w wr X nx v rs) (fun i _ _ => 20 - (intOf i).toNat)
  case atStart => exact ⟨[], _, by simp, rfl, HD0.out⟩
  case round =>
    obtain ⟨rs, v, hk, rfl, hD⟩ := hrel
    clear HD0
    obtain ⟨k, hkk⟩ : ∃ k, rs.length = k := ⟨_, rfl⟩
    obtain ⟨va, vc, hva, hvf⟩ := owns_form hD.own
    rw [hkk] at hva hk ⊢
    subst hva
    have hbx := hD.box
    have hlt : X < wr.heap.size := (Array.getElem?_eq_some_iff.1 hbx).1
    have b1 := HB1.out wr hD.below
    have HAA := HA.out wr hD.below
    have hown := hD.own
    have hres := hD.res
    have hXX := hD.hX
    have hbw := hD.below
    rw [hkk] at hown
    clear hD
    by_cases hgo : k < m ∧ k < 20
    · have hg1 : (k : Int) < (m : Int) := by omega
      have hg2 : (k : Int) < 20 := by omega
      have xv : wr.cell? ⟨X, 1, none⟩ = some (.slice va k vc) := (cell_of_row wr X 1 _ _ _ hbx).trans rfl
      obtain ⟨y, HY⟩ : ∃ y : Nat, Hid (y = 4 + 6 * k) := ⟨_, rfl⟩
      obtain ⟨y2, HY2⟩ : ∃ y2 : Nat, Hid (y2 = y + 2) := ⟨_, rfl⟩
      obtain ⟨y4, HY4⟩ : ∃ y4 : Nat, Hid (y4 = y + 4) := ⟨_, rfl⟩
      have m1 : IntKind.i64.wrap (6 * (k : Int)) = 6 * (k : Int) := IntWalk.i64_in _ ⟨by omega, by omega⟩
      have m2 : IntKind.i64.wrap (4 + 6 * (k : Int)) = (y : Int) := (IntWalk.i64_in _ ⟨by omega, by omega⟩).trans (by have := HY.out; omega)
      have m3 : IntKind.i64.wrap ((y : Int) + 2) = (y2 : Int) := (IntWalk.i64_in _ ⟨by omega, by have := HY.out; omega⟩).trans (by have := HY2.out; omega)
      have m4 : IntKind.i64.wrap ((y : Int) + 4) = (y4 : Int) := (IntWalk.i64_in _ ⟨by omega, by have := HY.out; omega⟩).trans (by have := HY4.out; omega)
      have HAD := HA.out wr.drew hbw.drew
      go_wp2_with fail
      refine wp_region_E (fun w' => w'.cell? ⟨X, 1, none⟩ = some (.slice va k vc)) 17 (by kernel_rfl) ?_
      have hq0 : (fun w' : World => w'.cell? ⟨X, 1, none⟩ = some (.slice va k vc)) wr.drew := xv
      refine wpAnyE_take (i := 0) 34 (.pointer (some ⟨X, 1, none⟩)) (by kernel_rfl) rfl (by kernel_rfl) (by kernel_rfl) (by kernel_rfl) (fun _ _ _ h => h) rfl rfl hq0 (fun w' hw => by have m0 : w'.cell? ⟨X, 1, none⟩ = some (.slice va k vc) := hw; go_simp <;> first | omega | kernel_rfl | decide) ?_
      simp only [Act.put, List.setIfInBounds_toArray, List.set_cons_zero, List.set_cons_succ]
      refine wpAnyE_take (i := 1) 35 (.slice va k vc) (by kernel_rfl) rfl (by kernel_rfl) (by kernel_rfl) (by kernel_rfl) (fun _ _ _ h => h) rfl rfl hq0 (fun w' hw => by have m0 : w'.cell? ⟨X, 1, none⟩ = some (.slice va k vc) := hw; go_simp <;> first | omega | kernel_rfl | decide) ?_
      simp only [Act.put, List.setIfInBounds_toArray, List.set_cons_zero, List.set_cons_succ]
      refine wpAnyE_take (i := 2) 36 (.slice (some ⟨b, off, none⟩) 128 c) (by kernel_rfl) rfl (by kernel_rfl) (by kernel_rfl) (by kernel_rfl) (fun _ _ _ h => h) rfl rfl hq0 (fun w' hw => by have m0 : w'.cell? ⟨X, 1, none⟩ = some (.slice va k vc) := hw; go_simp <;> first | omega | kernel_rfl | decide) ?_
      simp only [Act.put, List.setIfInBounds_toArray, List.set_cons_zero, List.set_cons_succ]
      refine wpAnyE_take (i := 3) 37 (.int .i64 y) (by kernel_rfl) rfl (by kernel_rfl) (by kernel_rfl) (by kernel_rfl) (fun _ _ _ h => h) rfl rfl hq0 (fun w' hw => by have m0 : w'.cell? ⟨X, 1, none⟩ = some (.slice va k vc) := hw; go_simp <;> first | omega | kernel_rfl | decide) ?_
      simp only [Act.put, List.setIfInBounds_toArray, List.set_cons_zero, List.set_cons_succ]
      refine wpAnyE_take (i := 5) 39 (.slice (some ⟨b, off, none⟩) 128 c) (by kernel_rfl) rfl (by kernel_rfl) (by kernel_rfl) (by kernel_rfl) (fun _ _ _ h => h) rfl rfl hq0 (fun w' hw => by have m0 : w'.cell? ⟨X, 1, none⟩ = some (.slice va k vc) := hw; go_simp <;> first | omega | kernel_rfl | decide) ?_
      simp only [Act.put, List.setIfInBounds_toArray, List.set_cons_zero, List.set_cons_succ]
      refine wpAnyE_take (i := 6) 40 (.int .i64 y) (by kernel_rfl) rfl (by kernel_rfl) (by kernel_rfl) (by kernel_rfl) (fun _ _ _ h => h) rfl rfl hq0 (fun w' hw => by have m0 : w'.cell? ⟨X, 1, none⟩ = some (.slice va k vc) := hw; go_simp <;> first | omega | kernel_rfl | decide) ?_
      simp only [Act.put, List.setIfInBounds_toArray, List.set_cons_zero, List.set_cons_succ]
      refine wpAnyE_take (i := 7) 41 (.int .i64 y2) (by kernel_rfl) rfl (by kernel_rfl) (by kernel_rfl) (by kernel_rfl) (fun _ _ _ h => h) rfl rfl hq0 (fun w' hw => by have m0 : w'.cell? ⟨X, 1, none⟩ = some (.slice va k vc) := hw; go_simp <;> first | omega | kernel_rfl | decide) ?_
      simp only [Act.put, List.setIfInBounds_toArray, List.set_cons_zero, List.set_cons_succ]
      refine wpAnyE_take (i := 9) 43 (.slice (some ⟨b, off, none⟩) 128 c) (by kernel_rfl) rfl (by kernel_rfl) (by kernel_rfl) (by kernel_rfl) (fun _ _ _ h => h) rfl rfl hq0 (fun w' hw => by have m0 : w'.cell? ⟨X, 1, none⟩ = some (.slice va k vc) := hw; go_simp <;> first | omega | kernel_rfl | decide) ?_
      simp only [Act.put, List.setIfInBounds_toArray, List.set_cons_zero, List.set_cons_succ]
      refine wpAnyE_take (i := 10) 44 (.int .i64 y) (by kernel_rfl) rfl (by kernel_rfl) (by kernel_rfl) (by kernel_rfl) (fun _ _ _ h => h) rfl rfl hq0 (fun w' hw => by have m0 : w'.cell? ⟨X, 1, none⟩ = some (.slice va k vc) := hw; go_simp <;> first | omega | kernel_rfl | decide) ?_
      simp only [Act.put, List.setIfInBounds_toArray, List.set_cons_zero, List.set_cons_succ]
      refine wpAnyE_take (i := 11) 45 (.int .i64 y4) (by kernel_rfl) rfl (by kernel_rfl) (by kernel_rfl) (by kernel_rfl) (fun _ _ _ h => h) rfl rfl hq0 (fun w' hw => by have m0 : w'.cell? ⟨X, 1, none⟩ = some (.slice va k vc) := hw; go_simp <;> first | omega | kernel_rfl | decide) ?_
      simp only [Act.put, List.setIfInBounds_toArray, List.set_cons_zero, List.set_cons_succ]
      refine wpAnyE_one (i := 4) (by kernel_rfl) rfl rfl (fun K2 hK2 => ?_)
      go_simp
      refine (HAD.out y 2 (by have := HY.out; omega) (by omega)).mono ?_
      rintro e w1 ⟨⟨x1, rfl⟩, rfl⟩
      refine hK2 _ _ (fun _ => hq0) ?_
      clear hK2 K2
      try simp only [Act.put, List.setIfInBounds_toArray, List.set_cons_zero, List.set_cons_succ]
      refine wpAnyE_one (i := 8) (by kernel_rfl) rfl rfl (fun K2 hK2 => ?_)
      go_simp
      refine (HAD.out y2 2 (by have := HY.out; have := HY2.out; omega) (by omega)).mono ?_
      rintro e w1 ⟨⟨x2, rfl⟩, rfl⟩
      refine hK2 _ _ (fun _ => hq0) ?_
      clear hK2 K2
      try simp only [Act.put, List.setIfInBounds_toArray, List.set_cons_zero, List.set_cons_succ]
      refine wpAnyE_one (i := 12) (by kernel_rfl) rfl rfl (fun K2 hK2 => ?_)
      go_simp
      refine (HAD.out y4 2 (by have := HY.out; have := HY4.out; omega) (by omega)).mono ?_
      rintro e w1 ⟨⟨x3, rfl⟩, rfl⟩
      refine hK2 _ _ (fun _ => hq0) ?_
      clear hK2 K2
      try simp only [Act.put, List.setIfInBounds_toArray, List.set_cons_zero, List.set_cons_succ]
      refine wpAnyE_take (i := 13) 47 (.agg #[.int .i64 x1, .int .i64 x2, .int .i64 x3]) (by kernel_rfl) rfl (by kernel_rfl) (by kernel_rfl) (by kernel_rfl) (fun _ _ _ h => h) rfl rfl hq0 (fun w' hw => by have m0 : w'.cell? ⟨X, 1, none⟩ = some (.slice va k vc) := hw; go_simp <;> first | omega | kernel_rfl | decide) ?_
      simp only [Act.put, List.setIfInBounds_toArray, List.set_cons_zero, List.set_cons_succ]
      refine wpAnyE_one (i := 14) (by kernel_rfl) rfl rfl (fun K2 hK2 => ?_)
      go_simp
      obtain ⟨Wb, HWb⟩ : ∃ Wb, Hid (Wb = (wr.alloc (.cells #[.int .i64 x1, .int .i64 x2, .int .i64 x3] 78)).drew) := ⟨_, rfl⟩
      have hbb : Below wr.heap.size wr Wb := by rw [HWb.out]; exact (belowA _ _).drew
      have hnw : Wb.heap[wr.heap.size]? = some (.cells #[.int .i64 x1, .int .i64 x2, .int .i64 x3] 78 (0, 0)) := by rw [HWb.out]; exact heap_alloc_new _ _
      have hXb := (hbb.block X hlt).trans hbx
      have hrb := (hbb.block _ (Array.getElem?_eq_some_iff.1 hres).1).trans hres
      have hbwb : Below w.heap.size w Wb := hbw.trans (hbb.mono hbw.size)
      have hownb := owns_below hown hbb
      rw [← HWb.out]
      clear HWb
      have hq1 : (fun w' : World => w'.cell? ⟨X, 1, none⟩ = some (.slice va k vc)) Wb := (cell_of_row Wb X 1 _ _ _ hXb).trans rfl
      refine hK2 _ _ (fun _ => hq1) ?_
      clear hK2 K2
      refine wpAnyE_one (i := 15) (by kernel_rfl) rfl rfl (fun K2 hK2 => ?_)
      have hlb : X + 1 ≤ Wb.heap.size := Nat.le_trans hlt hbb.size
      refine wp_appendT _ _ 32 78 _ 3 24 Tryz.underlying32 infoRn rfl (by decide) rfl (base := X + 1) hownb rfl ⟨wr.heap.size, 0, none⟩ 1 1 rfl [.int .i64 x1, .int .i64 x2, .int .i64 x3] rfl ?_ (fun u hm => List.all_eq_true.1 (show ([.int .i64 x1, .int .i64 x2, .int .i64 x3] : List Value).all (·.oneCell') = true from rfl) u hm) (by omega) (by omega) hlb ?_
      · intro j u hj
        rw [Addr.add_mid, Nat.zero_add]
        simpa [World.cell?, hnw] using hj
      intro v' w3 hown3 hns3 hbl3
      obtain ⟨ya, yc, rfl, hyf⟩ := owns_form hown3
      have hown4 : w3.ownsRow (X + 1) 78 3 (.slice ya (k + 1) yc) (k + 1) ((rs ++ [(x1, x2, x3)]).flatMap flat3) := by rw [flat_snoc]; exact hown3
      have HOWN4 : Hid _ := hown4
      clear hown3 hown4
      show K2 (Act.put _ (some 49) _) w3
      have hX3 := hns3.cells hXb (by decide)
      have hr3 := hns3.cells hrb (by decide)
      have hbw3 : Below w.heap.size w w3 := hbwb.trans (hbl3.mono (by omega))
      have hq3 : (fun w' : World => w'.cell? ⟨X, 1, none⟩ = some (.slice va k vc)) w3 := (cell_of_row w3 X 1 _ _ _ hX3).trans rfl
      refine hK2 _ _ (fun _ => hq3) ?_
      clear hK2 K2
      simp only [Act.put, List.setIfInBounds_toArray, List.set_cons_zero, List.set_cons_succ]
      refine wpAnyE_take (i := 16) 50 (.pointer (some ⟨X, 1, none⟩)) (by kernel_rfl) rfl (by kernel_rfl) (by kernel_rfl) (by kernel_rfl) (fun _ _ _ h => h) rfl rfl hq3 (fun w' hw => by have m0 : w'.cell? ⟨X, 1, none⟩ = some (.slice va k vc) := hw; go_simp) ?_
      simp only [Act.put, List.setIfInBounds_toArray, List.set_cons_zero, List.set_cons_succ]
      have y1 : w3.cell? ⟨X, 1, none⟩ = some (.slice va k vc) := hq3
      have yf : w3.frozen? ⟨X, 1, none⟩ = false := frozen_of_row w3 X _ _ _ hX3
      refine wpAnyE_one (i := 17) (by kernel_rfl) rfl rfl (fun K2 hK2 => ?_)
      go_simp
      refine hK2 _ _ (fun hne => absurd rfl hne) ?_
      clear hK2 K2
      refine wpAnyE_done (by kernel_rfl) ?_ _
      have hX4 : (w3.setCell ⟨X, 1, none⟩ (.slice ya (k + 1) yc)).heap[X]? = some (.cells #[.int .i64 nx, .slice ya (k + 1) yc] 34 (0, 0)) := by simpa using heap_setCell_same w3 X 1 _ _ (.slice ya (k + 1) yc) hX3
      have HD4 : Hid (DsT w (w3.setCell ⟨X, 1, none⟩ (.slice ya (k + 1) yc)) X nx (.slice ya (k + 1) yc) (rs ++ [(x1, x2, x3)])) := by
        refine ⟨(Below.heap_setCell _ ⟨X, 1, none⟩ _ _ (by show w.heap.size ≠ X; omega)).trans hr3, hX4, ?_, hXX, hbw3.setCell (p := ⟨X, 1, none⟩) (by show w.heap.size ≤ X; omega) _⟩
        rw [List.length_append, hkk]
        exact owns_set HOWN4.out _ (by show X < X + 1; omega) _
      clear y1 yf hq3 hq1 hq0 hX3 xv b1 hr3 hX4 HOWN4 hownb
      go_wp2
      go_roundw
      case rel => exact ⟨rs ++ [(x1, x2, x3)], _, by rw [List.length_append, hkk]; show k + 1 ≤ 20; omega, by rw [List.length_append, hkk]; first | rfl | go_num, HD4.out⟩
      case measure => simp [intOf]; omega
    · have hread : RRead wr (.slice va rs.length vc) rs := by
        have q := hown
        rw [← hkk] at q
        exact owns_R q
      have HRR : Hid (RRead wr (.slice va rs.length vc) rs) := hread
      have HF : Hid (Fsh (X + 1) va) := hvf
      have HBOX : Hid _ := hbx
      have hbc : wr.cell? ⟨X, 0, none⟩ = some (.int .i64 nx) ∧ wr.cell? ⟨X, 1, none⟩ = some (.slice va k vc) := by simp [World.cell?, hbx]
      obtain ⟨x0, x1⟩ := hbc
      have hcond : ¬ (k : Int) < (m : Int) ∨ ((k : Int) < (m : Int) ∧ ¬ (k : Int) < 20) := by omega
      have HEN : Hid (Calls Tryz.prog 32 #[.agg #[.int .i64 nx, .slice va rs.length vc]] wr fun e w' => ((tbOK nx rs ∧ ∃ u, e = .returned (.tuple #[u, .int .i64 0]) ∧ Row8 wr.heap.size w' u (tabL nx rs)) ∨ (e = .returned (.tuple #[.slice none 0 0, .int .i64 5]))) ∧ Below wr.heap.size wr w') := by
        by_cases hok : tbOK nx rs
        · refine (specEncT_yes nx va vc rs wr HRR.out hok).mono ?_
          rintro e w' ⟨u, rfl, hR, hb⟩
          exact ⟨.inl ⟨hok, u, rfl, hR⟩, hb⟩
        · refine (specEncT_no nx va vc rs wr HRR.out (by omega) hok).mono ?_
          rintro e w' ⟨rfl, hb⟩
          exact ⟨.inr rfl, hb⟩
      rw [hkk] at HEN
      clear hown hread hvf hgo HA
      have HEND : Hid (∀ (W : World), Below wr.heap.size wr W → RRead W (.slice va k vc) rs ∧ Below w.heap.size w W ∧ W.heap[w.heap.size]? = some (.cells #[.int .i64 0, .slice none 0 0] 34 (0, 0)) ∧ W.heap[X]? = some (.cells #[.int .i64 nx, .slice va k vc] 34 (0, 0))) := fun W h => by
        have q := HRR.out.below h
        rw [hkk] at q
        exact ⟨q, hbw.trans (h.mono hbw.size), (h.block _ (by omega)).trans hres, (h.block _ hlt).trans hbx⟩
      have hEE : ∀ (Q : Ending → World → Prop), (∀ e w', (((tbOK nx rs ∧ ∃ u, e = .returned (.tuple #[u, .int .i64 0]) ∧ Row8 wr.heap.size w' u (tabL nx rs)) ∨ (e = .returned (.tuple #[.slice none 0 0, .int .i64 5]))) ∧ Below wr.heap.size wr w') → Q e w') → Calls Tryz.prog 32 #[.agg #[.int .i64 nx, .slice va k vc]] wr Q := fun Q h => Calls.mono HEN.out h
      clear HEN hbx
      rcases hcond with hc1 | ⟨hc1, hc2⟩
      all_goals
        go_wp2_with fail
        refine hEE _ ?_
        rintro e w2 ⟨⟨hok, u, rfl, hR⟩ | rfl, hb2⟩
        case inr =>
          obtain ⟨-, hB2, hr2, -⟩ := HEND.out w2 hb2
          have hcy : w2.cell? ⟨w.heap.size, 0, none⟩ = some (.int .i64 0) ∧ w2.cell? ⟨w.heap.size, 1, none⟩ = some (.slice none 0 0) := by simp [World.cell?, hr2]
          obtain ⟨q0, q1⟩ := hcy
          have hfy : ∀ i, w2.frozen? ⟨w.heap.size, i, none⟩ = false := fun i => frozen_of_row w2 _ i _ _ hr2
          have z0 := hfy 0
          have z1 := hfy 1
          have HB3 : Hid (Below w.heap.size w ((w2.setCell ⟨w.heap.size, 0, none⟩ (.int .i64 0)).setCell ⟨w.heap.size, 1, none⟩ (.slice none 0 0))) := ((hB2).setCell (p := ⟨w.heap.size, 0, none⟩) (Nat.le_refl _) _).setCell (p := ⟨w.heap.size, 1, none⟩) (Nat.le_refl _) _
          clear hr2 hB2 hfy hb2 hEE x0 x1
          go_wp2
          exact bodyPost_ret (v := .tuple #[.agg #[.int .i64 0, .slice none 0 0], .int .i64 5]) (by simp [results, Tryz.results9, go_sem, q0, q1]) rfl ⟨.inl ⟨5, rfl, by decide⟩, HB3.out⟩
        have HOK : Hid (tbOK nx rs) := hok
        obtain ⟨ua, uc, hua⟩ := hR.shape
        subst hua
        obtain ⟨hT2, hB2, hr2, hX2⟩ := HEND.out w2 hb2
        have HT2 : Hid (RRead w2 (.slice va k vc) rs) := hT2
        have hbyt : Byt (tabL nx rs) := (tabP_byt nx rs HOK.out.2.1 _).seal
        have hblen : (tabL nx rs).length = 128 := tabL_length HOK.out.2.1
        have hsame := l2Same_any ua uc (tabL nx rs) (some ⟨b, off, none⟩) c zs w2 (Row8.bts hR hbyt) (by rw [h8]; exact HV.out w2 hB2) (by omega) (by omega)
        rw [hblen, h8] at hsame
        have HSM : Hid _ := hsame
        rw [hblen] at hR ⊢
        have hcy : w2.cell? ⟨w.heap.size, 0, none⟩ = some (.int .i64 0) ∧ w2.cell? ⟨w.heap.size, 1, none⟩ = some (.slice none 0 0) := by simp [World.cell?, hr2]
        obtain ⟨q0, q1⟩ := hcy
        have hfy : ∀ i, w2.frozen? ⟨w.heap.size, i, none⟩ = false := fun i => frozen_of_row w2 _ i _ _ hr2
        have z0 := hfy 0
        have z1 := hfy 1
        have hbc2 : w2.cell? ⟨X, 0, none⟩ = some (.int .i64 nx) ∧ w2.cell? ⟨X, 1, none⟩ = some (.slice va k vc) := by simp [World.cell?, hX2]
        obtain ⟨s0, s1⟩ := hbc2
        have HEQ : Hid ((tabL nx rs) = zs ∨ ¬ (tabL nx rs) = zs) := Classical.em _
        have HXW : Hid (w.heap.size < X) := hXX
        clear hok hT2 hR hsame hbyt hblen hfy hr2 hX2 hb2 hEE x0 x1
        generalize hbk : tabL nx rs = bk at *
        go_wp2_with fail
        refine Calls.mono HSM.out ?_
        rintro e w4 ⟨rfl, rfl⟩
        rcases HEQ.out with heq | hne
        · have HQ : Hid (bk = zs) := heq
          have HBK : Hid (tabL nx rs = bk) := hbk
          have hdc : decide (bk = zs) = true := decide_eq_true heq
          have HST : Hid (RRead ((w2.setCell ⟨w.heap.size, 0, none⟩ (.int .i64 nx)).setCell ⟨w.heap.size, 1, none⟩ (.slice va k vc)) (.slice va k vc) rs ∧ Below w.heap.size w ((w2.setCell ⟨w.heap.size, 0, none⟩ (.int .i64 nx)).setCell ⟨w.heap.size, 1, none⟩ (.slice va k vc))) := by
            have hu : Upd w.heap.size (w.heap.size + 1) w2 ((w2.setCell ⟨w.heap.size, 0, none⟩ (.int .i64 nx)).setCell ⟨w.heap.size, 1, none⟩ (.slice va k vc)) := ((Upd.refl _ _ _).setCell (p := ⟨w.heap.size, 0, none⟩) (Nat.le_refl _) (Nat.lt_succ_self _) _).setCell (p := ⟨w.heap.size, 1, none⟩) (Nat.le_refl _) (Nat.lt_succ_self _) _
            exact ⟨HT2.out.upd (fun p hp => by have := HF.out p hp; have := HXW.out; omega) hu, hB2.trans (hu.below (Nat.le_refl _) hB2.size)⟩
          rw [hdc]
          clear heq hdc hB2 hbk
          go_wp2
          exact bodyPost_ret (v := .tuple #[.agg #[.int .i64 nx, .slice va k vc], .int .i64 0]) (by simp [results, Tryz.results9, go_sem, q0, q1]) rfl ⟨.inr ⟨nx, rs, va, vc, by rw [hkk], by rw [hkk]; exact HST.out.1, HOK.out, by rw [HBK.out, HQ.out]⟩, HST.out.2⟩
        · have hdc : decide (bk = zs) = false := decide_eq_false hne
          have HB3 : Hid (Below w.heap.size w ((w2.setCell ⟨w.heap.size, 0, none⟩ (.int .i64 0)).setCell ⟨w.heap.size, 1, none⟩ (.slice none 0 0))) := ((hB2).setCell (p := ⟨w.heap.size, 0, none⟩) (Nat.le_refl _) _).setCell (p := ⟨w.heap.size, 1, none⟩) (Nat.le_refl _) _
          rw [hdc]
          clear hne hdc hB2 hbk
          go_wp2
          exact bodyPost_ret (v := .tuple #[.agg #[.int .i64 0, .slice none 0 0], .int .i64 5]) (by simp [results, Tryz.results9, go_sem, q0, q1]) rfl ⟨.inl ⟨5, rfl, by decide⟩, HB3.out⟩
end Go.Proofs.YtfbjagjgofdheaaGreatDoor
