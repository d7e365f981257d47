import Derived.Test.YtamblkibmlfklabDoorFr1
namespace Go.Proofs.YtamblkibmlfklabDoor
open Go.RowKit Go.Shelf
attribute [local go_sem] Oper.semAt_some

set_option maxHeartbeats 1000000 in
theorem freeBlocks_in (F : Fence) (n : Nat) (hg : F.fn 20) (hro : F.round = none) (x y : Value) (w : World) (hx : ∃ a l c, x = .slice a l c) (hy : ∃ a l c, y = .slice a l c) :
    CallsIn F n Tryd.prog 20 #[x, y] w fun e w' => e = .returned (.func (.func 35) #[] #[.pointer (some ⟨w.heap.size, 0, none⟩), .pointer (some ⟨w.heap.size + 1, 0, none⟩)]) ∧ w' = (w.alloc (.cells #[x] 23)).alloc (.cells #[y] 23) := by
  obtain ⟨a, l, c, rfl⟩ := hx
  obtain ⟨a', l', c', rfl⟩ := hy
  refine callsIn_of_wp Tryd.func20 rfl hg ?_ hro
  simp only [Tryd.ntmps20, List.size_toArray, List.length_cons, List.length_nil, Nat.reduceAdd, Nat.reduceSub, Array.replicate_succ, Array.replicate_zero, List.push_toArray, List.append_toArray, List.nil_append, List.cons_append]
  gi_wp2
  go_ret
  exact ⟨rfl, rfl⟩

/-- what the free blocks' iterator tells: all of them, or the first ones -/
theorem free_stops (F : Fence) (n : Nat) (hg : F.fn 35) (hro : F.round = none) (hn : 1 ≤ n) (Bs Bt n₀ : Nat) (a a' : Option Addr) (c c' : Nat) (zs ys : List Int) (hl : ys.length = zs.length) (hz : zs.length ≤ 512) (hz8 : 8 ≤ zs.length) (w : World) (hBs : Bs < w.heap.size) (hBt : Bt < w.heap.size) (_hn₀ : n₀ ≤ w.heap.size)
    (hc : w.cell? ⟨Bs, 0, none⟩ = some (.slice a zs.length c)) (hc' : w.cell? ⟨Bt, 0, none⟩ = some (.slice a' ys.length c')) (w0 : World) (h0 : Nts w0 (.slice a zs.length c) zs) (h0' : Nts w0 (.slice a' ys.length c') ys) (hw0 : w0.heap.size ≤ n₀) (hb0 : Below w0.heap.size w0 w) :
    SeqStopsK F n Tryd.prog 35 #[.pointer (some ⟨Bs, 0, none⟩), .pointer (some ⟨Bt, 0, none⟩)] (fun x : Blk zs.length => #[Value.int .i64 (x.1 : Int)]) (KpF n₀ Bs Bt) (fun xs => xs = frs zs ys zs.length zs.length) (fun pre => ∃ k, k ≤ zs.length ∧ pre = frs zs ys zs.length k) zs.length w := fun l J Jx W hW _ _ hY hJ0 => by
  obtain ⟨_, _, he, hs⟩ := h0.shape
  simp only [Value.slice.injEq, true_and] at he
  obtain ⟨rfl, rfl⟩ := he
  obtain ⟨b, off, rfl, hcell⟩ := hs (by omega)
  obtain ⟨_, _, he, hs'⟩ := h0'.shape
  simp only [Value.slice.injEq, true_and] at he
  obtain ⟨rfl, rfl⟩ := he
  obtain ⟨b', off', rfl, hcell'⟩ := hs' (by omega)
  have hb : b < w0.heap.size := World.block_lt_of_cell? _ _ (hcell 0 (by omega))
  have hb' : b' < w0.heap.size := World.block_lt_of_cell? _ _ (hcell' 0 (by omega))
  have hw0W : Below w0.heap.size w0 W := hb0.trans (hW.mono hb0.size)
  exact free1_in F n hg hro hn l Bs Bt n₀ b off b' off' c c' zs ys hl hz hz8 (by omega) (by omega) J Jx hY W ((hW.cell (p := ⟨Bs, 0, none⟩) hBs).trans hc) ((hW.cell (p := ⟨Bt, 0, none⟩) hBt).trans hc')
    (fun j hj => (hw0W.cell (p := ⟨b, off + j, none⟩) hb).trans (hcell j hj)) (fun j hj => (hw0W.cell (p := ⟨b', off' + j, none⟩) hb').trans (hcell' j hj)) hJ0

/-- the lowest free block, or 0 -/
def low (zs ys : List Int) : Int := match frs zs ys zs.length zs.length with
  | [] => 0
  | x :: _ => (x.1 : Int)

set_option maxRecDepth 100000 in
set_option maxHeartbeats 2000000 in
theorem lowestFree_in (F : Fence) (n : Nat) (h1 : F.fn 27) (h2 : F.fn 20) (h3 : F.fn 35) (hro : F.round = none) (hn : 3 ≤ n) (a a' : Option Addr) (c c' : Nat) (zs ys : List Int) (hl : ys.length = zs.length) (hz : zs.length ≤ 512) (hz8 : 8 ≤ zs.length) (w : World) (hv : Nts w (.slice a zs.length c) zs) (hv' : Nts w (.slice a' ys.length c') ys) :
    CallsIn F n Tryd.prog 27 #[.slice a zs.length c, .slice a' ys.length c'] w fun e W' => e = .returned (.int .i64 (low zs ys)) ∧ Below w.heap.size w W' := by
  have hn1 : 1 ≤ n := by omega
  have HL : Hid (ys.length = zs.length) := hl
  clear hl
  refine callsIn_of_wp_marks Tryd.func27 rfl h1 ?_ hro
  simp only [Tryd.ntmps27, List.size_toArray, List.length_cons, List.length_nil, Nat.reduceAdd, Nat.reduceSub, Array.replicate_succ, Array.replicate_zero, List.push_toArray, List.append_toArray, List.nil_append, List.cons_append]
  gi_wp2_with (gi_at_call 20; refine (freeBlocks_in F (n - 1) h2 hro _ _ _ ⟨_, _, _, rfl⟩ ⟨_, _, _, rfl⟩).mono ?_; rintro e w' ⟨rfl, rfl⟩)
  have bR := Boxed.new w 2 (.int .i64 0)
  have bS := Boxed.new (w.alloc (.cells #[.int .i64 0] 2)) 23 (.slice a zs.length c)
  have bT := Boxed.new ((w.alloc (.cells #[.int .i64 0] 2)).alloc (.cells #[.slice a zs.length c] 23)) 23 (.slice a' ys.length c')
  simp only [World.size_alloc] at bS bT
  have hB0 : Below w.heap.size w (((w.alloc (.cells #[.int .i64 0] 2)).alloc (.cells #[.slice a zs.length c] 23)).alloc (.cells #[.slice a' ys.length c'] 23)) := (((Below.refl _ w).alloc (Nat.le_refl _) _).alloc (by simp) _).alloc (by simp; omega) _
  refine wpIn_rangeFunc_ownF hro hn1 (gf := 35) (lb := #[.pointer (some ⟨w.heap.size + 1, 0, none⟩), .pointer (some ⟨w.heap.size + 1 + 1, 0, none⟩)]) rfl h3 (enters_of Tryd.func35 (by kernel_rfl) rfl)
    (free_stops F (n - 1) h3 hro (by omega) (w.heap.size + 1) (w.heap.size + 1 + 1) w.heap.size a a' c c' zs ys HL.out hz hz8 _ (by simp) (by simp) (by simp; omega) ((bS.alloc _).cell) bT.cell w hv hv' (by omega) hB0) KpF.trans (KpF.put (by simp; omega) (by simp) (by simp)) (Below.refl _ _) (fun _ => rfl)
    (fun pre W => (pre = [] ∧ W.cell? ⟨w.heap.size, 0, none⟩ = some (.int .i64 0) ∧ W.frozen? ⟨w.heap.size, 0, none⟩ = false) ∧ Below w.heap.size w W)
    (fun k pre W => (k = .ret ∧ ∃ x, pre = [x] ∧ W.cell? ⟨w.heap.size, 0, none⟩ = some (.int .i64 (x.1 : Int))) ∧ Below w.heap.size w W)
    (OwnFrom.and (Own.from (fun s A B row hs hg hr => ⟨hs.1, cell_kept hs.2.1 hg hr, (frozen_kept hs.2.1 hg hr).trans hs.2.2⟩) _) (ownFrom_below (Nat.le_refl _) (by simp; omega)))
    (fun k => OwnFrom.and (Own.from (fun s A B row hs hg hr => by obtain ⟨e1, x, e2, e3⟩ := hs; exact ⟨e1, x, e2, cell_kept e3 hg hr⟩) _) (ownFrom_below (Nat.le_refl _) (by simp; omega)))
    ⟨⟨rfl, ((bR.alloc _).alloc _).cell, ((bR.alloc _).alloc _).frozen⟩, hB0⟩
    (fun x => { tmps := #[.slice a zs.length c, .slice a' ys.length c', undef, undef, .pointer (some ⟨w.heap.size, 0, none⟩), .int .i64 (x.1 : Int), .slice a zs.length c, .slice a' ys.length c', .func (.func 35) #[] #[.pointer (some ⟨w.heap.size + 1, 0, none⟩), .pointer (some ⟨w.heap.size + 1 + 1, 0, none⟩)], .int .i64 (x.1 : Int), undef], defers := [] }) ?assign ?body ?done ?stop
  case assign =>
    intro l x W K hK
    gi_wp2
    exact hK
  case body =>
    rintro l pre x W ⟨⟨rfl, hc, hf⟩, hB⟩ _
    gi_wp2
    exact ⟨KeepsOthers.setCell _ _ _, ⟨rfl, x, rfl, World.cell?_setCell_same' _ _ _ (by rw [hc]; rfl)⟩, hB.setCell (p := ⟨w.heap.size, 0, none⟩) (Nat.le_refl _) _⟩
  case done =>
    rintro D xs W hD rfl ⟨⟨hnil, hc, hf⟩, hB⟩ hK
    gi_wp2
    have hK' := (KeepsOthers.setCell W ⟨w.heap.size, 0, none⟩ (.int .i64 0)).same D _ hK rfl
    refine ⟨by simp, .inl ⟨_, _, rfl, run_takeDeferred hK', ?_⟩⟩
    have hc5 := cell_kept (World.cell?_setCell_same' W ⟨w.heap.size, 0, none⟩ (.int .i64 0) (by rw [hc]; rfl)) (grownBy_putObj' _ D (.deferred none)) (fun r e => by cases e; exact ⟨_, hK', rfl⟩)
    refine ⟨.int .i64 0, ?_, by unfold low; rw [hnil], (hB.setCell (p := ⟨w.heap.size, 0, none⟩) (Nat.le_refl _) _).trans (belowK_b (w := w) (Nat.le_refl _) _ D _ _ (by simp at hD; omega) hK' rfl rfl)⟩
    simp [results, Tryd.f27, go_sem, hc5]
  case stop =>
    rintro D k pre W hD ⟨q, hq, hpre⟩ ⟨⟨rfl, x, rfl, hc⟩, hB⟩ hK
    gi_wp2
    refine ⟨by simp, .inl ⟨_, _, rfl, run_takeDeferred hK, ?_⟩⟩
    have hc5 := cell_kept hc (grownBy_putObj' _ D (.deferred none)) (fun r e => by cases e; exact ⟨_, hK, rfl⟩)
    have hlow : low zs ys = (x.1 : Int) := by
      obtain ⟨t, ht⟩ := frs_prefix zs ys zs.length hq
      unfold low
      rw [← ht, ← hpre]; rfl
    refine ⟨.int .i64 (x.1 : Int), ?_, by rw [hlow], hB.trans (belowK_b (w := w) (Nat.le_refl _) W D _ _ (by simp at hD; omega) hK rfl rfl)⟩
    simp [results, Tryd.f27, go_sem, hc5]

theorem lowestFree_any (a a' : Option Addr) (c c' : Nat) (zs ys : List Int) (hl : ys.length = zs.length) (hz : zs.length ≤ 512) (hz8 : 8 ≤ zs.length) (w : World) (hv : Nts w (.slice a zs.length c) zs) (hv' : Nts w (.slice a' ys.length c') ys) :
    Calls Tryd.prog 27 #[.slice a zs.length c, .slice a' ys.length c'] w fun e W' => e = .returned (.int .i64 (low zs ys)) ∧ Below w.heap.size w W' :=
  (callsIn_wide (n := 3)).1 (lowestFree_in Fence.wide 3 trivial trivial trivial rfl (Nat.le_refl _) a a' c c' zs ys hl hz hz8 w hv hv')
end Go.Proofs.YtamblkibmlfklabDoor
