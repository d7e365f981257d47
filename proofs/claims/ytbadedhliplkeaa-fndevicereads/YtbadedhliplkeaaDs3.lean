import Derived.Test.YtbadedhliplkeaaDs2
namespace Go.Proofs.Ytbadedhliplkeaa
open Go.RowKit
set_option linter.unusedVariables false

/-- the source's first number, behind k bytes -/
def bgN (zs : List Int) : Nat → Int
  | 0 => 1469598103934665603
  | k + 1 => IntKind.u64.wrap (bits .xor .u64 (bgN zs k) (IntKind.u64.wrap (zs.getD k 0)) * 1099511628211)
/-- the source under way -/
structure Bgn (w : World) (g : Nat) (u : Value) (s : Int) (wr : World) : Prop where
  res : wr.heap[w.heap.size]? = some (.cells #[.slice none 0 0, .int .i64 0, .int .u64 0] 63)
  c0 : wr.cell? ⟨g, 0, none⟩ = some u
  c1 : wr.cell? ⟨g, 1, none⟩ = some (.int .i64 0)
  c2 : wr.cell? ⟨g, 2, none⟩ = some (.int .u64 s)
  free : ∀ o, wr.frozen? ⟨g, o, none⟩ = false
  bel : Below w.heap.size w wr
theorem Bgn.stored {w wr : World} {g : Nat} {u : Value} {s : Int} (h : Bgn w g u s wr) (hg : w.heap.size < g) (s' : Int) : Bgn w g u s' (wr.setCell ⟨g, 2, none⟩ (.int .u64 s')) :=
  ⟨(Below.heap_setCell _ _ _ _ (by show w.heap.size ≠ g; omega)).trans h.res, (set_ne _ _ _ _ _ (by decide)).trans h.c0, (set_ne _ _ _ _ _ (by decide)).trans h.c1, World.cell?_setCell_same _ _ _ h.c2, fun o => (World.frozen?_setCell _ _ _ _).trans (h.free o), h.bel.setCell (by show w.heap.size ≤ g; omega) _⟩
theorem Bgn.heap {w wr w' : World} {g : Nat} {u : Value} {s : Int} (h : Bgn w g u s wr) (e : w'.heap = wr.heap) (e1 : w'.os = wr.os) (e2 : w'.tape = wr.tape) (e3 : w'.output = wr.output) : Bgn w g u s w' := by
  have k1 : ∀ p : Addr, w'.cell? p = wr.cell? p := fun p => World.cell?_of_block (by rw [e])
  have k2 : ∀ p : Addr, w'.frozen? p = wr.frozen? p := fun p => World.frozen?_of_block (by rw [e])
  exact ⟨by rw [e]; exact h.res, (k1 _).trans h.c0, (k1 _).trans h.c1, (k1 _).trans h.c2, fun o => (k2 _).trans (h.free o), h.bel.trans ⟨e1, e2, e3, by rw [e]; exact Nat.le_refl _, fun k _ => by rw [e]⟩⟩

set_option maxHeartbeats 1000000 in
theorem l1Begin_x (a : Option Addr) (c : Nat) (zs : List Int) (w : World) (hv : Bts w (.slice a zs.length c) zs) (hl : zs.length ≤ 1048576) :
    Calls Try.prog 36 #[.slice a zs.length c] w fun e w' => e = .returned (.agg #[.slice a zs.length c, .int .i64 0, .int .u64 (bgN zs zs.length)]) ∧ Below w.heap.size w w' := by
  have HB : Hid (∀ t, Bgn w (w.heap.size + 1) (.slice a zs.length c) 1469598103934665603 ((w.alloc (.cells #[.slice none 0 0, .int .i64 0, .int .u64 0] 63)).alloc (.cells #[.slice a zs.length c, .int .i64 0, .int .u64 1469598103934665603] t))) := fun t => by
    refine ⟨?_, ?_, ?_, ?_, fun i => ?_, ((Below.refl _ _).alloc (Nat.le_refl _) _).alloc (by simp) _⟩
    · rw [Below.heap_alloc _ _ _ (by simp)]; exact heap_alloc_new w _
    · rw [World.cell?_alloc_at _ _ _ _ (by simp)]; rfl
    · rw [World.cell?_alloc_at _ _ _ _ (by simp)]; rfl
    · rw [World.cell?_alloc_at _ _ _ _ (by simp)]; rfl
    · rw [World.frozen?_alloc_at _ _ _ _ (by simp)]
  go_enter Try.func36, Try.ntmps36
  go_wp2
  go_loopw [4] (fun i wr => ∃ k : Nat, k ≤ zs.length ∧ i = .int .i64 k ∧ Bgn w (w.heap.size + 1) (.slice a zs.length c) (bgN zs k) wr) (fun i _ => zs.length - (intOf i).toNat)
  case atStart => exact ⟨0, Nat.zero_le _, rfl, HB.out _⟩
  case round =>
    obtain ⟨k, hk, rfl, hB⟩ := hrel
    clear HB
    by_cases hlt : k < zs.length
    · have hi : (k : Int) < (zs.length : Int) := by omega
      obtain ⟨_, _, he, hc⟩ := hv.shape
      simp only [Value.slice.injEq, true_and] at he
      obtain ⟨rfl, rfl⟩ := he
      obtain ⟨b, off, rfl, hcell⟩ := hc (by omega)
      have hbw : b < w.heap.size := World.block_lt_of_cell? _ _ (hcell 0 (by omega))
      have g1 : wr.cell? ⟨b, off + k, none⟩ = some (.int .u8 (zs.getD k 0)) := (hB.bel.cell (p := ⟨b, off + k, none⟩) hbw).trans (hcell k hlt)
      have c2 := hB.c2
      have f2 := hB.free 2
      have HBB : Hid (Bgn w (w.heap.size + 1) (.slice (some ⟨b, off, none⟩) zs.length c) (bgN zs k) wr) := hB
      have HN : Hid (bgN zs (k + 1) = IntKind.u64.wrap (bits .xor .u64 (bgN zs k) (IntKind.u64.wrap (zs.getD k 0)) * 1099511628211)) := rfl
      generalize zs.getD k 0 = z at g1 HN
      generalize bgN zs k = s at c2 HBB HN
      clear hB hcell hc
      go_wp2
      go_region_law (fail)
      all_goals go_wp2
      all_goals go_roundw
      all_goals first | exact ⟨k + 1, by omega, by go_num, by rw [HN.out]; exact (HBB.out.stored (by omega) _).heap rfl rfl rfl rfl⟩ | (simp [intOf]; omega)
    · have hi : ¬ (k : Int) < (zs.length : Int) := by omega
      obtain rfl : k = zs.length := by omega
      have c2 := hB.c2
      have c0 := hB.c0
      have c1 := hB.c1
      have hbel := hB.bel
      have q0 : wr.cell? ⟨w.heap.size, 0, none⟩ = some (.slice none 0 0) := by simp [World.cell?, hB.res]
      have q1 : wr.cell? ⟨w.heap.size, 1, none⟩ = some (.int .i64 0) := by simp [World.cell?, hB.res]
      have q2 : wr.cell? ⟨w.heap.size, 2, none⟩ = some (.int .u64 0) := by simp [World.cell?, hB.res]
      have qf : ∀ j, wr.frozen? ⟨w.heap.size, j, none⟩ = false := fun j => frozen_of_row wr w.heap.size j _ _ hB.res
      have hbE := fun x y z => ((hbel.setCell (p := ⟨w.heap.size, 0, none⟩) (Nat.le_refl _) x).setCell (p := ⟨w.heap.size, 1, none⟩) (Nat.le_refl _) y).setCell (p := ⟨w.heap.size, 2, none⟩) (Nat.le_refl _) z
      have e0 := fun x => World.cell?_setCell_same wr ⟨w.heap.size, 0, none⟩ x q0
      have e1 := fun x y => World.cell?_setCell_same (wr.setCell ⟨w.heap.size, 0, none⟩ x) ⟨w.heap.size, 1, none⟩ y ((set_ne _ _ _ _ _ (by decide)).trans q1)
      have e2 := fun x y z => World.cell?_setCell_same ((wr.setCell ⟨w.heap.size, 0, none⟩ x).setCell ⟨w.heap.size, 1, none⟩ y) ⟨w.heap.size, 2, none⟩ z (((set_ne _ _ _ _ _ (by decide)).trans (set_ne _ _ _ _ _ (by decide))).trans q2)
      obtain ⟨s, HSE⟩ : ∃ s, Hid (bgN zs zs.length = s) := ⟨_, rfl⟩
      rw [HSE.out] at c2
      clear hB
      go_wp2
      exact bodyPost_ret (v := .agg #[.slice a zs.length c, .int .i64 0, .int .u64 s]) (by simp [results, Try.results36, go_sem, e0, e1, e2]) rfl ⟨by rw [HSE.out], hbE _ _ _⟩
end Go.Proofs.Ytbadedhliplkeaa
