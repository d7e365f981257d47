import Derived.Test.YtpjdhfbeofdplaaGreatDoorMk1
import Derived.Deep.DeepCutAuto
namespace Go.Proofs.YtpjdhfbeofdplaaGreatDoor
open Go.RowKit

/-- a fresh superblock's bytes -/
def supP (N : Int) : List Int := [4, 1] ++ leN N 2 ++ leN 1 8 ++ leN 1 2 ++ leN 3 2 ++ leN 0 2 ++ leN 2 2
theorem supP_length (N : Int) : (supP N).length = 20 := by simp [supP, leN_length]
theorem supP_byt (N : Int) : Byt (supP N) := by
  have h0 : Byt [(4 : Int), 1] := fun i => by
    match i with
    | 0 => simp
    | 1 => simp
    | i + 2 => simp
  exact (((((h0.append (Byt.le _ _)).append (Byt.le _ _)).append (Byt.le _ _)).append (Byt.le _ _)).append (Byt.le _ _)).append (Byt.le _ _)
/-- the same as the program lays it -/
def su1 (N : Int) : List Int := putL (headL 4 1) 2 N 2
def su2 (N : Int) : List Int := putL (su1 N) 4 1 8
def su3 (N : Int) : List Int := putL (su2 N) 12 1 2
def su4 (N : Int) : List Int := putL (su3 N) 14 3 2
def su5 (N : Int) : List Int := putL (su4 N) 16 0 2
def su6 (N : Int) : List Int := putL (su5 N) 18 2 2
theorem suL_eq (N : Int) : su6 N = supP N ++ List.replicate 108 0 := by
  have e0 : headL 4 1 = [4, 1] ++ List.replicate 126 0 := rfl
  have e1 : su1 N = ([4, 1] ++ leN N 2) ++ List.replicate 124 0 := by rw [su1, e0, putL_at _ 2 rfl N 126 2 (by omega)]
  have e2 : su2 N = ([4, 1] ++ leN N 2 ++ leN 1 8) ++ List.replicate 116 0 := by rw [su2, e1, putL_at _ 4 (by simp [leN_length]) 1 124 8 (by omega)]
  have e3 : su3 N = ([4, 1] ++ leN N 2 ++ leN 1 8 ++ leN 1 2) ++ List.replicate 114 0 := by rw [su3, e2, putL_at _ 12 (by simp [leN_length]) 1 116 2 (by omega)]
  have e4 : su4 N = ([4, 1] ++ leN N 2 ++ leN 1 8 ++ leN 1 2 ++ leN 3 2) ++ List.replicate 112 0 := by rw [su4, e3, putL_at _ 14 (by simp [leN_length]) 3 114 2 (by omega)]
  have e5 : su5 N = ([4, 1] ++ leN N 2 ++ leN 1 8 ++ leN 1 2 ++ leN 3 2 ++ leN 0 2) ++ List.replicate 110 0 := by rw [su5, e4, putL_at _ 16 (by simp [leN_length]) 0 112 2 (by omega)]
  rw [su6, e5, putL_at _ 18 (by simp [leN_length]) 2 110 2 (by omega)]
  rfl
theorem suL_seal (N : Int) : slL (su6 N) = sealL (supP N) := by
  have h := slL_seal (supP N) (by rw [supP_length]; omega)
  rw [supP_length] at h
  rw [suL_eq]; exact h
theorem suL_length (N : Int) : (su6 N).length = 128 := by rw [suL_eq]; simp [supP_length]
theorem suL_byt (N : Int) : Byt (su6 N) := by rw [suL_eq]; exact (supP_byt N).append (Byt.zeros _)

set_option maxHeartbeats 1000000 in
theorem checkNumber4 (w : World) : Calls Tryz.prog 97 #[.agg #[.int .i64 4, .int .i64 1]] w fun e w' => e = .returned .nilIface ∧ Below w.heap.size w w' := by
  have hb0 := belowA w (.cells #[.int .i64 4, .int .i64 1] 113)
  go_enter Tryz.func97, Tryz.ntmps97
  go_wp2_with fail
  refine (within_any _ _ _ _).mono ?_
  rintro e w1 ⟨rfl, rfl⟩
  rw [inB_true (by omega)]
  go_wp2
  go_ret
  exact ⟨rfl, hb0⟩

set_option maxRecDepth 100000 in
set_option maxHeartbeats 2000000 in
theorem superFields (N : Int) (hN : 8 ≤ N ∧ N ≤ 512) (b : Nat) (w : World) : Calls Tryz.prog 102 #[.agg #[.int .i64 4, .int .i64 1, .int .i64 N, .int .i64 1, .int .i64 1, .int .i64 3, .slice (some ⟨b, 0, none⟩) 1 1]] w fun e w' => e = .returned .nilIface ∧ Below w.heap.size w w' := by
  have hb0 := belowA w (.cells #[.int .i64 4, .int .i64 1, .int .i64 N, .int .i64 1, .int .i64 1, .int .i64 3, .slice (some ⟨b, 0, none⟩) 1 1] 118)
  go_enter Tryz.func102, Tryz.ntmps102
  go_wp2_with fail
  refine (within_any _ _ _ _).mono ?_
  rintro e w1 ⟨rfl, rfl⟩
  rw [inB_true (by omega)]
  go_wp2_with fail
  refine (within_any _ _ _ _).mono ?_
  rintro e w1 ⟨rfl, rfl⟩
  rw [inB_true (by omega)]
  go_wp2_with fail
  refine (within_any _ _ _ _).mono ?_
  rintro e w1 ⟨rfl, rfl⟩
  rw [inB_true (by omega)]
  go_wp2_with fail
  refine (within_any _ _ _ _).mono ?_
  rintro e w1 ⟨rfl, rfl⟩
  rw [inB_true (by omega)]
  go_wp2
  go_ret
  exact ⟨rfl, hb0⟩

set_option maxRecDepth 100000 in
set_option maxHeartbeats 2000000 in
theorem superRoots (N : Int) (hN : 8 ≤ N ∧ N ≤ 512) (b : Nat) (w : World) (c0 : w.cell? ⟨b, 0, none⟩ = some (.int .i64 0)) (c1 : w.cell? ⟨b, 1, none⟩ = some (.int .i64 2)) :
    Calls Tryz.prog 103 #[.agg #[.int .i64 4, .int .i64 1, .int .i64 N, .int .i64 1, .int .i64 1, .int .i64 3, .slice (some ⟨b, 0, none⟩) 1 1]] w fun e w' => e = .returned .nilIface ∧ Below w.heap.size w w' := by
  have hbl : b < w.heap.size := World.block_lt_of_cell? _ _ c0
  obtain ⟨W0, hW0⟩ : ∃ W0, W0 = w.alloc (.cells #[.int .i64 4, .int .i64 1, .int .i64 N, .int .i64 1, .int .i64 1, .int .i64 3, .slice (some ⟨b, 0, none⟩) 1 1] 118) := ⟨_, rfl⟩
  have hb0 : Below w.heap.size w W0 := by rw [hW0]; exact belowA _ _
  have d0 : W0.cell? ⟨b, 0, none⟩ = some (.int .i64 0) := (hb0.cell (p := ⟨b, 0, none⟩) hbl).trans c0
  have d1 : W0.cell? ⟨b, 1, none⟩ = some (.int .i64 2) := (hb0.cell (p := ⟨b, 1, none⟩) hbl).trans c1
  have f2 : W0.cell? ⟨w.heap.size, 2, none⟩ = some (.int .i64 N) := by rw [hW0]; exact World.cell?_alloc_at _ _ _ _ rfl
  have f4 : W0.cell? ⟨w.heap.size, 4, none⟩ = some (.int .i64 1) := by rw [hW0]; exact World.cell?_alloc_at _ _ _ _ rfl
  have f6 : W0.cell? ⟨w.heap.size, 6, none⟩ = some (.slice (some ⟨b, 0, none⟩) 1 1) := by rw [hW0]; exact World.cell?_alloc_at _ _ _ _ rfl
  have hs0 : w.heap.size < W0.heap.size := World.block_lt_of_cell? _ _ f2
  have hbl0 : b < W0.heap.size := by omega
  have HW0 : Hid (W0 = w.alloc (.cells #[.int .i64 4, .int .i64 1, .int .i64 N, .int .i64 1, .int .i64 1, .int .i64 3, .slice (some ⟨b, 0, none⟩) 1 1] 118)) := hW0
  clear hW0
  go_enter Tryz.func103, Tryz.ntmps103
  go_upto_region 1 with fail
  rw [← HW0.out]
  go_wp2_with fail
  go_loopw [10] (fun i wr => ∃ k : Nat, k ≤ 1 ∧ i = .int .i64 k ∧ Below W0.heap.size W0 wr) (fun i _ => 1 - (intOf i).toNat)
  case atStart => exact ⟨0, by omega, rfl, Below.refl _ _⟩
  case round =>
    obtain ⟨k, hk, rfl, hb⟩ := hrel
    by_cases h0 : k = 0
    · subst h0
      have e0 : wr.cell? ⟨b, 0, none⟩ = some (.int .i64 0) := (hb.cell (p := ⟨b, 0, none⟩) hbl0).trans d0
      have e1 : wr.cell? ⟨b, 1, none⟩ = some (.int .i64 2) := (hb.cell (p := ⟨b, 1, none⟩) hbl0).trans d1
      have g2 : wr.cell? ⟨w.heap.size, 2, none⟩ = some (.int .i64 N) := (hb.cell (p := ⟨w.heap.size, 2, none⟩) hs0).trans f2
      have g4 : wr.cell? ⟨w.heap.size, 4, none⟩ = some (.int .i64 1) := (hb.cell (p := ⟨w.heap.size, 4, none⟩) hs0).trans f4
      have hsr : w.heap.size < wr.heap.size := Nat.lt_of_lt_of_le hs0 hb.size
      have hb2 := fun o => hb.trans ((belowA wr o).mono hb.size)
      go_wp2_with fail
      refine (within_any _ _ _ _).mono ?_
      rintro e w1 ⟨rfl, rfl⟩
      rw [inB_true (by omega)]
      go_wp2_with fail
      refine (within_any _ _ _ _).mono ?_
      rintro e w1 ⟨rfl, rfl⟩
      rw [inB_true (by omega)]
      go_wp2
      go_quiet (fail)
      go_wp2
      go_roundw
      case rel => exact ⟨1, by omega, by go_num, below_drewN (hb2 _) _⟩
      case measure => simp [intOf]
    · obtain rfl : k = 1 := by omega
      go_wp2
      go_ret
      exact ⟨rfl, hb0.trans (hb.mono (Nat.le_of_lt hs0))⟩

set_option maxRecDepth 100000 in
set_option maxHeartbeats 2000000 in
theorem superCheck (N : Int) (hN : 8 ≤ N ∧ N ≤ 512) (b : Nat) (w : World) (c0 : w.cell? ⟨b, 0, none⟩ = some (.int .i64 0)) (c1 : w.cell? ⟨b, 1, none⟩ = some (.int .i64 2)) :
    Calls Tryz.prog 100 #[.agg #[.int .i64 4, .int .i64 1, .int .i64 N, .int .i64 1, .int .i64 1, .int .i64 3, .slice (some ⟨b, 0, none⟩) 1 1]] w fun e w' => e = .returned .nilIface ∧ Below w.heap.size w w' := by
  have hbl : b < w.heap.size := World.block_lt_of_cell? _ _ c0
  obtain ⟨W0, hW0⟩ : ∃ W0, W0 = w.alloc (.cells #[.int .i64 4, .int .i64 1, .int .i64 N, .int .i64 1, .int .i64 1, .int .i64 3, .slice (some ⟨b, 0, none⟩) 1 1] 118) := ⟨_, rfl⟩
  have hb0 : Below w.heap.size w W0 := by rw [hW0]; exact belowA _ _
  have hX : W0.heap[w.heap.size]? = some (.cells #[.int .i64 4, .int .i64 1, .int .i64 N, .int .i64 1, .int .i64 1, .int .i64 3, .slice (some ⟨b, 0, none⟩) 1 1] 118 (0, 0)) := by rw [hW0]; exact heap_alloc_new w _
  have hs0 : w.heap.size < W0.heap.size := (Array.getElem?_eq_some_iff.1 hX).1
  have HW0 : Hid (W0 = w.alloc (.cells #[.int .i64 4, .int .i64 1, .int .i64 N, .int .i64 1, .int .i64 1, .int .i64 3, .slice (some ⟨b, 0, none⟩) 1 1] 118)) := hW0
  have hcell : ∀ W : World, W.heap[w.heap.size]? = some (.cells #[.int .i64 4, .int .i64 1, .int .i64 N, .int .i64 1, .int .i64 1, .int .i64 3, .slice (some ⟨b, 0, none⟩) 1 1] 118 (0, 0)) → W.cell? ⟨w.heap.size, 0, none⟩ = some (.int .i64 4) ∧ W.cell? ⟨w.heap.size, 1, none⟩ = some (.int .i64 1) ∧ W.cell? ⟨w.heap.size, 2, none⟩ = some (.int .i64 N) ∧ W.cell? ⟨w.heap.size, 3, none⟩ = some (.int .i64 1) ∧ W.cell? ⟨w.heap.size, 4, none⟩ = some (.int .i64 1) ∧ W.cell? ⟨w.heap.size, 5, none⟩ = some (.int .i64 3) ∧ W.cell? ⟨w.heap.size, 6, none⟩ = some (.slice (some ⟨b, 0, none⟩) 1 1) := fun W h => by
    simp [World.cell?, h]
  clear hW0
  obtain ⟨x0, x1, x2, x3, x4, x5, x6⟩ := hcell W0 hX
  go_enter Tryz.func100, Tryz.ntmps100
  go_upto_region 1 with fail
  rw [← HW0.out]
  go_wp2_with fail
  refine (checkNumber4 _).mono ?_
  rintro e w1 ⟨rfl, hb1⟩
  have hX1 := (hb1.block _ hs0).trans hX
  obtain ⟨y0, y1, y2, y3, y4, y5, y6⟩ := hcell w1 hX1
  have hB1 := hb0.trans (hb1.mono (Nat.le_of_lt hs0))
  have hs1 := hb1.size
  clear x0 x1 x2 x3 x4 x5 x6
  go_wp2_with fail
  refine (superFields N hN b w1).mono ?_
  rintro e w2 ⟨rfl, hb2⟩
  have hX2 := (hb2.block _ (by omega)).trans hX1
  obtain ⟨z0, z1, z2, z3, z4, z5, z6⟩ := hcell w2 hX2
  have hB2 := hB1.trans (hb2.mono hB1.size)
  clear y0 y1 y2 y3 y4 y5 y6
  have d0 : w2.cell? ⟨b, 0, none⟩ = some (.int .i64 0) := (hB2.cell (p := ⟨b, 0, none⟩) hbl).trans c0
  have d1 : w2.cell? ⟨b, 1, none⟩ = some (.int .i64 2) := (hB2.cell (p := ⟨b, 1, none⟩) hbl).trans c1
  go_wp2_with fail
  refine (superRoots N hN b w2 d0 d1).mono ?_
  rintro e w3 ⟨rfl, hb3⟩
  have hB3 := hB2.trans (hb3.mono hB2.size)
  clear z0 z1 z2 z3 z4 z5 z6
  go_wp2
  go_ret
  exact ⟨rfl, hB3⟩

/-- the block is being laid at g; the form's box (bx) and the answer's block lie ahead of it -/
structure LayU (w wr : World) (g : Nat) (bx : Obj) (zs : List Int) : Prop where
  arr : Arr wr g zs
  below : Below w.heap.size w wr
  box : wr.heap[w.heap.size]? = some bx
  there : wr.there (w.heap.size + 1) 0 128
  far : w.heap.size + 1 < g
theorem LayU.upd {w wr w' : World} {g : Nat} {bx : Obj} {zs zs' : List Int} (h : LayU w wr g bx zs) (hu : Upd g (g + 1) wr w') (ha : Arr w' g zs') : LayU w w' g bx zs' := by
  have hg := h.arr.lt
  have hf := h.far
  have e1 : w'.heap[w.heap.size]? = wr.heap[w.heap.size]? := hu.block _ (by omega) (.inl (by omega))
  have e2 : w'.heap[w.heap.size + 1]? = wr.heap[w.heap.size + 1]? := hu.block _ (by omega) (.inl (by omega))
  exact ⟨ha, h.below.trans (hu.below (by omega) (by omega)), e1.trans h.box, there_block h.there e2, hf⟩
theorem LayU.alloc {w wr : World} {g : Nat} {bx : Obj} {zs : List Int} (h : LayU w wr g bx zs) (o : Obj) : LayU w (wr.alloc o) g bx zs := by
  have hb := belowA wr o
  have hg := h.arr.lt
  have hf := h.far
  exact ⟨h.arr.below hb, h.below.trans (hb.mono h.below.size), (hb.block _ (show w.heap.size < wr.heap.size by omega)).trans h.box, there_block h.there (hb.block _ (by omega)), hf⟩
theorem LayU.drew {w wr : World} {g : Nat} {bx : Obj} {zs : List Int} (h : LayU w wr g bx zs) : LayU w wr.drew g bx zs :=
  ⟨h.arr.heap rfl, h.below.drew, h.box, h.there, h.far⟩
theorem putLayU {w X : World} {g : Nat} {bx : Obj} {zs : List Int} (h : LayU w X g bx zs) (off n cap : Nat) (v : Int) (ho : off + n ≤ 128) (hn : n ≤ 8) :
    Calls Tryz.prog 67 #[.slice (some ⟨g, off, none⟩) n cap, .int .i64 v] X.drew fun e w' => e = .returned (.tuple #[]) ∧ LayU w w' g bx (putL zs off v n) := by
  refine (putNumber_any g off n cap v zs X.drew h.drew.arr ho hn).mono ?_
  rintro e w' ⟨rfl, hA, hu⟩
  exact ⟨rfl, h.drew.upd hu hA⟩

set_option maxRecDepth 100000 in
set_option maxHeartbeats 4000000 in
theorem superLay (N : Int) (b : Nat) (w : World) (c0 : w.cell? ⟨b, 0, none⟩ = some (.int .i64 0)) (c1 : w.cell? ⟨b, 1, none⟩ = some (.int .i64 2)) :
    Calls Tryz.prog 101 #[.agg #[.int .i64 4, .int .i64 1, .int .i64 N, .int .i64 1, .int .i64 1, .int .i64 3, .slice (some ⟨b, 0, none⟩) 1 1]] w fun e w' => e = .returned (.agg (u8s (su6 N))) ∧ Below w.heap.size w w' := by
  have hbl : b < w.heap.size := World.block_lt_of_cell? _ _ c0
  have hh := headL_length 4 1
  obtain ⟨bx, HBX⟩ : ∃ bx : Obj, Hid (bx = .cells #[.int .i64 4, .int .i64 1, .int .i64 N, .int .i64 1, .int .i64 1, .int .i64 3, .slice (some ⟨b, 0, none⟩) 1 1] 118 (0, 0)) := ⟨_, rfl⟩
  have hcell : ∀ W : World, W.heap[w.heap.size]? = some bx → W.cell? ⟨w.heap.size, 2, none⟩ = some (.int .i64 N) ∧ W.cell? ⟨w.heap.size, 3, none⟩ = some (.int .i64 1) ∧ W.cell? ⟨w.heap.size, 4, none⟩ = some (.int .i64 1) ∧ W.cell? ⟨w.heap.size, 5, none⟩ = some (.int .i64 3) ∧ W.cell? ⟨w.heap.size, 6, none⟩ = some (.slice (some ⟨b, 0, none⟩) 1 1) := fun W h => by
    rw [HBX.out] at h
    simp [World.cell?, h]
  have HCELL : Hid _ := hcell
  clear hcell
  go_enter Tryz.func101, Tryz.ntmps101
  go_wp2_with fail
  obtain ⟨W0, HW⟩ : ∃ W0, Hid (W0 = (w.alloc (.cells #[.int .i64 4, .int .i64 1, .int .i64 N, .int .i64 1, .int .i64 1, .int .i64 3, .slice (some ⟨b, 0, none⟩) 1 1] 118)).alloc (.cells Tryz.zeroCells121 121)) := ⟨_, rfl⟩
  rw [← HW.out]
  refine (begin_any 4 1 (by omega) (by omega) W0).mono ?_
  rintro e w2 ⟨rfl, hb2⟩
  have HL0 : Hid (LayU w (w2.alloc (.cells (u8s (headL 4 1)) 121)) w2.heap.size bx (headL 4 1)) := by
    have e1 : W0.heap[w.heap.size]? = some bx := by
      rw [HW.out, HBX.out]
      exact ((belowA (w.alloc (.cells #[.int .i64 4, .int .i64 1, .int .i64 N, .int .i64 1, .int .i64 1, .int .i64 3, .slice (some ⟨b, 0, none⟩) 1 1] 118)) (.cells Tryz.zeroCells121 121)).block _ (by simp)).trans (heap_alloc_new w _)
    have e3 : W0.there (w.heap.size + 1) 0 128 := by rw [HW.out, zeroRaw]; exact there_new _ _ (by simp)
    have e4 : W0.heap.size = w.heap.size + 1 + 1 := by rw [HW.out]; simp
    have e5 : Below w.heap.size w W0 := by rw [HW.out]; exact ((Below.refl _ _).alloc (Nat.le_refl _) _).alloc (by simp) _
    have hb3 := hb2.trans ((belowA w2 (.cells (u8s (headL 4 1)) 121)).mono hb2.size)
    have hs2 := hb2.size
    exact ⟨Arr.new w2 _ hh (headL_byt 4 1 (by omega) (by omega)) _, e5.trans (hb3.mono e5.size), (hb3.block _ (show w.heap.size < W0.heap.size by omega)).trans e1, there_block e3 (hb3.block _ (by omega)), by omega⟩
  go_wp2_with (first | ((with_reducible refine wpList_alloc128 ?_ ?_); exact ⟨rfl, rfl⟩) | ((with_reducible refine wpList_store_new hh ?_ ?_); exact ⟨rfl, _, _, _, rfl, rfl, rfl, rfl⟩))
  simp only [Act.put, List.setIfInBounds_toArray, List.set_cons_zero, List.set_cons_succ]
  obtain ⟨W3, HW3⟩ : ∃ W3, Hid (W3 = w2.alloc (.cells (u8s (headL 4 1)) 121)) := ⟨_, rfl⟩
  rw [← HW3.out] at HL0 ⊢
  generalize w2.heap.size = g at *
  clear hb2 HW3 HW
  have HL0b : Hid _ := HL0.out
  have p0 := (HCELL.out W3 HL0.out.box).1
  have HC0 : Hid (Calls Tryz.prog 67 #[.slice (some ⟨g, 2, none⟩) 2 126, .int .i64 N] W3.drew fun e w' => e = .returned (.tuple #[]) ∧ LayU w w' g bx (su1 N)) := putLayU HL0.out 2 2 126 N (by omega) (by omega)
  skip
  go_region_held3 (fun w' => w'.cell? ⟨w.heap.size, 2, none⟩ = some (.int .i64 N)) (first | go_keep | assumption)
    ((go_at_call 67; refine HC0.out.mono ?_; rintro e V0 ⟨rfl, hL0⟩; have hk0 : V0.cell? ⟨w.heap.size, 2, none⟩ = some (.int .i64 N) := (HCELL.out V0 hL0.box).1))
  have HL1 : Hid (LayU w V0 g bx (su1 N)) := hL0
  clear hL0 hk0 HC0 p0 HL0b HL0
  have HL1b : Hid _ := HL1.out
  have p1 := (HCELL.out V0 HL1.out.box).2.1
  have HC1 : Hid (Calls Tryz.prog 67 #[.slice (some ⟨g, 4, none⟩) 8 124, .int .i64 1] V0.drew fun e w' => e = .returned (.tuple #[]) ∧ LayU w w' g bx (su2 N)) := putLayU HL1.out 4 8 124 1 (by omega) (by omega)
  go_wp2_with fail
  go_region_held3 (fun w' => w'.cell? ⟨w.heap.size, 3, none⟩ = some (.int .i64 1)) (first | go_keep | assumption)
    ((go_at_call 67; refine HC1.out.mono ?_; rintro e V1 ⟨rfl, hL1⟩; have hk1 : V1.cell? ⟨w.heap.size, 3, none⟩ = some (.int .i64 1) := (HCELL.out V1 hL1.box).2.1))
  have HL2 : Hid (LayU w V1 g bx (su2 N)) := hL1
  clear hL1 hk1 HC1 p1 HL1b HL1
  have HL2b : Hid _ := HL2.out
  have p2 := (HCELL.out V1 HL2.out.box).2.2.1
  have HC2 : Hid (Calls Tryz.prog 67 #[.slice (some ⟨g, 12, none⟩) 2 116, .int .i64 1] V1.drew fun e w' => e = .returned (.tuple #[]) ∧ LayU w w' g bx (su3 N)) := putLayU HL2.out 12 2 116 1 (by omega) (by omega)
  go_wp2_with fail
  go_region_held3 (fun w' => w'.cell? ⟨w.heap.size, 4, none⟩ = some (.int .i64 1)) (first | go_keep | assumption)
    ((go_at_call 67; refine HC2.out.mono ?_; rintro e V2 ⟨rfl, hL2⟩; have hk2 : V2.cell? ⟨w.heap.size, 4, none⟩ = some (.int .i64 1) := (HCELL.out V2 hL2.box).2.2.1))
  have HL3 : Hid (LayU w V2 g bx (su3 N)) := hL2
  clear hL2 hk2 HC2 p2 HL2b HL2
  have HL3b : Hid _ := HL3.out
  have p3 := (HCELL.out V2 HL3.out.box).2.2.2.1
  have HC3 : Hid (Calls Tryz.prog 67 #[.slice (some ⟨g, 14, none⟩) 2 114, .int .i64 3] V2.drew fun e w' => e = .returned (.tuple #[]) ∧ LayU w w' g bx (su4 N)) := putLayU HL3.out 14 2 114 3 (by omega) (by omega)
  go_wp2_with fail
  go_region_held3 (fun w' => w'.cell? ⟨w.heap.size, 5, none⟩ = some (.int .i64 3)) (first | go_keep | assumption)
    ((go_at_call 67; refine HC3.out.mono ?_; rintro e V3 ⟨rfl, hL3⟩; have hk3 : V3.cell? ⟨w.heap.size, 5, none⟩ = some (.int .i64 3) := (HCELL.out V3 hL3.box).2.2.2.1))
  have HL4 : Hid (LayU w V3 g bx (su4 N)) := hL3
  clear hL3 hk3 HC3 p3 HL3b HL3
  have p6 := (HCELL.out V3 HL4.out.box).2.2.2.2
  go_wp2
  clear p6
  go_loopw [34] (fun i wr => ∃ k : Nat, k ≤ 1 ∧ i = .int .i64 k ∧ LayU w wr g bx (if k = 0 then su4 N else su6 N)) (fun i _ => 1 - (intOf i).toNat)
  case atStart => exact ⟨0, by omega, rfl, HL4.out⟩
  case round =>
    obtain ⟨k, hk, rfl, hL⟩ := hrel
    clear HL4
    by_cases h0 : k = 0
    · subst h0
      have HL : Hid (LayU w wr g bx (su4 N)) := hL
      have hB := hL.below
      have e0 : wr.cell? ⟨b, 0, none⟩ = some (.int .i64 0) := (hB.cell (p := ⟨b, 0, none⟩) hbl).trans c0
      have e1 : wr.cell? ⟨b, 1, none⟩ = some (.int .i64 2) := (hB.cell (p := ⟨b, 1, none⟩) hbl).trans c1
      clear hL hB
      have hsl : ∀ X : World, (Instr.sliceAt 121 (.pointer (some ⟨g, 0, none⟩)) (some (.int .i64 16)) none none).run Tryz.prog X = .ok (.slice (some ⟨g, 16, none⟩) 112 112) X := fun X => sliceRaw_l g 16 (by omega) _ (by omega) X
      obtain ⟨X0, HX0⟩ : ∃ X0, Hid (X0 = wr.alloc (.cells #[.int .i64 0, .int .i64 2] 68)) := ⟨_, rfl⟩
      have HLX : Hid (LayU w X0 g bx (su4 N)) := by rw [HX0.out]; exact HL.out.alloc _
      have r0 : X0.cell? ⟨wr.heap.size, 0, none⟩ = some (.int .i64 0) := by rw [HX0.out]; exact World.cell?_alloc_at _ _ _ _ rfl
      have r1 : X0.cell? ⟨wr.heap.size, 1, none⟩ = some (.int .i64 2) := by rw [HX0.out]; exact World.cell?_alloc_at _ _ _ _ rfl
      have hrb : wr.heap.size < X0.heap.size := World.block_lt_of_cell? _ _ r0
      have hgr : g < wr.heap.size := HL.out.arr.lt
      go_wp2_with fail
      rw [← HX0.out]
      clear e0 e1 hsl HL
      have hC5 : Hid (Calls Tryz.prog 67 #[.slice (some ⟨g, 16, none⟩) 2 112, .int .i64 0] X0.drew fun e w' => e = .returned (.tuple #[]) ∧ LayU w w' g bx (su5 N) ∧ (w'.cell? ⟨wr.heap.size, 0, none⟩ = some (.int .i64 0) ∧ w'.cell? ⟨wr.heap.size, 1, none⟩ = some (.int .i64 2))) := by
        refine (putNumber_any g 16 2 112 0 (su4 N) X0.drew HLX.out.drew.arr (by omega) (by omega)).mono ?_
        rintro e w' ⟨rfl, hA, hu⟩
        have hblk : w'.heap[wr.heap.size]? = X0.drew.heap[wr.heap.size]? := hu.block _ hrb (.inr (by omega))
        exact ⟨rfl, HLX.out.drew.upd hu hA, (World.cell?_of_block (a := ⟨wr.heap.size, 0, none⟩) hblk).trans r0, (World.cell?_of_block (a := ⟨wr.heap.size, 1, none⟩) hblk).trans r1⟩
      go_region_held3 (fun w' => w'.cell? ⟨wr.heap.size, 0, none⟩ = some (.int .i64 0) ∧ w'.cell? ⟨wr.heap.size, 1, none⟩ = some (.int .i64 2)) (first | go_keep | assumption)
        ((go_at_call 67; refine hC5.out.mono ?_; rintro e X1 ⟨rfl, hL5, hr5⟩))
      have HL5 : Hid (LayU w X1 g bx (su5 N)) := hL5
      have s1 := hr5.2
      have s0 := hr5.1
      have hrb1 : wr.heap.size < X1.heap.size := World.block_lt_of_cell? _ _ s0
      clear hL5 hr5 hC5 r0 r1 HLX
      go_wp2_with fail
      have hC6 : Hid (Calls Tryz.prog 67 #[.slice (some ⟨g, 18, none⟩) 2 110, .int .i64 2] X1.drew fun e w' => e = .returned (.tuple #[]) ∧ LayU w w' g bx (su6 N) ∧ (w'.cell? ⟨wr.heap.size, 0, none⟩ = some (.int .i64 0) ∧ w'.cell? ⟨wr.heap.size, 1, none⟩ = some (.int .i64 2))) := by
        refine (putNumber_any g 18 2 110 2 (su5 N) X1.drew HL5.out.drew.arr (by omega) (by omega)).mono ?_
        rintro e w' ⟨rfl, hA, hu⟩
        have hblk : w'.heap[wr.heap.size]? = X1.drew.heap[wr.heap.size]? := hu.block _ hrb1 (.inr (by omega))
        exact ⟨rfl, HL5.out.drew.upd hu hA, (World.cell?_of_block (a := ⟨wr.heap.size, 0, none⟩) hblk).trans s0, (World.cell?_of_block (a := ⟨wr.heap.size, 1, none⟩) hblk).trans s1⟩
      go_region_held3 (fun w' => w'.cell? ⟨wr.heap.size, 0, none⟩ = some (.int .i64 0) ∧ w'.cell? ⟨wr.heap.size, 1, none⟩ = some (.int .i64 2)) (first | go_keep | assumption)
        ((go_at_call 67; refine hC6.out.mono ?_; rintro e X2 ⟨rfl, hL6, hr6⟩))
      have HL6 : Hid (LayU w X2 g bx (su6 N)) := hL6
      clear hL6 hr6 hC6 s0 s1
      go_wp2
      go_roundw
      case rel => exact ⟨1, by omega, by go_num, HL6.out⟩
      case measure => simp [intOf]
    · obtain rfl : k = 1 := by omega
      have hL1 : LayU w wr g bx (su6 N) := hL
      have hR3 := hL1.arr.rng
      have hl3 := hL1.arr.1
      have hT3 := hL1.there
      have HBL : Hid (Below w.heap.size w (wr.setCells (w.heap.size + 1) 0 ((su6 N).map (Value.int .u8)))) := Below.setCells hL1.below (by omega) _ _
      have HRS : Hid _ := Rng8.stored hT3 hl3
      clear hL hL1
      go_wp2_with (first | ((with_reducible refine wpList_load128 hR3 ?_ ?_); exact ⟨rfl, _, rfl, rfl⟩) | ((with_reducible refine wpList_store128 hT3 hl3 ?_ ?_); exact ⟨rfl, _, _, rfl, rfl, rfl⟩))
      exact bodyPost_ret (result_rng Tryz.results101 rfl HRS.out) rfl ⟨rfl, HBL.out⟩

set_option maxRecDepth 100000 in
set_option maxHeartbeats 2000000 in
theorem encodeForm_super (N : Int) (b : Nat) {w : World} (hl : (su6 N).length = 128) (hby : Byt (su6 N))
    (hC : Calls Tryz.prog 100 #[.agg #[.int .i64 4, .int .i64 1, .int .i64 N, .int .i64 1, .int .i64 1, .int .i64 3, .slice (some ⟨b, 0, none⟩) 1 1]] w fun e w' => e = .returned .nilIface ∧ Below w.heap.size w w')
    (hY : ∀ W, Below w.heap.size w W → Calls Tryz.prog 101 #[.agg #[.int .i64 4, .int .i64 1, .int .i64 N, .int .i64 1, .int .i64 1, .int .i64 3, .slice (some ⟨b, 0, none⟩) 1 1]] W fun e W' => e = .returned (.agg (u8s (su6 N))) ∧ Below W.heap.size W W') :
    Calls Tryz.prog 53 #[.iface 118 (.agg #[.int .i64 4, .int .i64 1, .int .i64 N, .int .i64 1, .int .i64 1, .int .i64 3, .slice (some ⟨b, 0, none⟩) 1 1])] w fun e w' => ∃ g, e = .returned (.tuple #[.slice (some ⟨g, 0, none⟩) 128 128, .nilIface]) ∧ w.heap.size ≤ g ∧ Dat w' g 121 (slL (su6 N)) ∧ Below w.heap.size w w' := by
  have mC : ∀ (v : Value) (w : World), (Go.method 307 118 v "loop.example/s01595/impl.check").run Tryz.prog w = .ok (100, v) w := fun v w => by kernel_rfl
  have mL : ∀ (v : Value) (w : World), (Go.method 307 118 v "loop.example/s01595/impl.lay").run Tryz.prog w = .ok (101, v) w := fun v w => by kernel_rfl
  generalize su6 N = ds at *
  have HSL : Hid (putL ds 124 (crcOf (ds.take 124)) 4 = slL ds) := rfl
  have hT := slL_length hl
  go_enter Tryz.func53, Tryz.ntmps53
  go_wp2_with fail
  refine hC.mono ?_
  rintro e w1 ⟨rfl, hb1⟩
  go_wp2_with fail
  refine (hY w1 hb1).mono ?_
  rintro e w2 ⟨rfl, hb2⟩
  have hB2 := hb1.trans (hb2.mono hb1.size)
  go_wp2_with fail
  refine (sealed_any ds hl hby w2).mono ?_
  rintro e w3 ⟨rfl, hb3⟩
  rw [HSL.out]
  have hB3 := hB2.trans (hb3.mono hB2.size)
  have hs3 := hB3.size
  have hA : Dat (w3.alloc (.cells (u8s (slL ds)) 121)) w3.heap.size 121 (slL ds) := heap_alloc_new w3 _
  have hB4 := fun o => hB3.trans ((belowA w3 o).mono hB3.size)
  clear hb1 hb2 hb3 hB2 hB3 hC hY
  go_wp2_with (first | ((with_reducible refine wpList_alloc128 ?_ ?_); exact ⟨rfl, rfl⟩) | ((with_reducible refine wpList_store_new hT ?_ ?_); exact ⟨rfl, _, _, _, rfl, rfl, rfl, rfl⟩))
  exact bodyPost_ret (v := .tuple #[.slice (some ⟨w3.heap.size, 0, none⟩) 128 128, .nilIface]) (by simp [results, Tryz.results53, go_sem]) rfl ⟨_, rfl, hs3, hA, hB4 _⟩

theorem encodeFormS (N : Int) (hN : 8 ≤ N ∧ N ≤ 512) (b : Nat) (w : World) (c0 : w.cell? ⟨b, 0, none⟩ = some (.int .i64 0)) (c1 : w.cell? ⟨b, 1, none⟩ = some (.int .i64 2)) :
    Calls Tryz.prog 53 #[.iface 118 (.agg #[.int .i64 4, .int .i64 1, .int .i64 N, .int .i64 1, .int .i64 1, .int .i64 3, .slice (some ⟨b, 0, none⟩) 1 1])] w fun e w' => ∃ g, e = .returned (.tuple #[.slice (some ⟨g, 0, none⟩) 128 128, .nilIface]) ∧ w.heap.size ≤ g ∧ Dat w' g 121 (slL (su6 N)) ∧ Below w.heap.size w w' := by
  have hbl : b < w.heap.size := World.block_lt_of_cell? _ _ c0
  exact encodeForm_super N b (suL_length N) (suL_byt N) (superCheck N hN b w c0 c1) (fun W hW => superLay N b W ((hW.cell (p := ⟨b, 0, none⟩) hbl).trans c0) ((hW.cell (p := ⟨b, 1, none⟩) hbl).trans c1))

end Go.Proofs.YtpjdhfbeofdplaaGreatDoor
