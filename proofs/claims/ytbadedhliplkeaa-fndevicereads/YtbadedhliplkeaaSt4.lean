import Derived.Test.YtbadedhliplkeaaSt3
namespace Go.Proofs.Ytbadedhliplkeaa
open Go.RowKit

theorem infoStep : (Try.prog.info? 46).map (fun i => (i.zero, i.size, i.bytes)) = some (some (.agg #[.int .i64 0, .int .i64 0, .slice none 0 0]), 3, 40) := by kernel_rfl

/-- the first k elements are laid in the new spine at block g0 -/
structure STo (w wr : World) (g0 : Nat) (ss : List (Int × Int × List Int)) (g : Nat → Nat) (k : Nat) : Prop where
  below : Below w.heap.size w wr
  base : w.heap.size ≤ g0
  spine : ∃ cur, wr.heap[g0]? = some (.cells cur 46 (0, 0)) ∧ cur.size = ss.length * 3
  els : ∀ i, i < k → g0 < g i ∧ g i < wr.heap.size ∧ SEl wr g0 0 (g i) i (ss.getD i (0, 0, []))
  inj : ∀ i j, i < k → j < k → g i = g j → i = j

theorem STo.lt {w wr : World} {g0 : Nat} {ss : List (Int × Int × List Int)} {g : Nat → Nat} {k : Nat} (h : STo w wr g0 ss g k) : g0 < wr.heap.size := by
  obtain ⟨cur, hc, _⟩ := h.spine
  by_cases hh : g0 < wr.heap.size
  · exact hh
  · simp [show wr.heap.size ≤ g0 by omega] at hc

theorem STo.cell {w wr : World} {g0 : Nat} {ss : List (Int × Int × List Int)} {g : Nat → Nat} {k : Nat} (h : STo w wr g0 ss g k) {w1 : World} (hb : Below wr.heap.size wr w1) (j : Nat) (hj : j < ss.length * 3) : (∃ x, w1.cell? ⟨g0, j, none⟩ = some x) ∧ w1.frozen? ⟨g0, j, none⟩ = false := by
  have hlt := h.lt
  obtain ⟨cur, hc, hs⟩ := h.spine
  rw [← hb.block g0 hlt] at hc
  constructor
  · rw [cell_of_row w1 g0 j cur _ (0, 0) hc]
    exact ⟨cur[j]'(by omega), by simp [hs, hj]⟩
  · exact frozen_of_row w1 g0 j cur _ hc

/-- three cells stored -/
abbrev put3 (w1 : World) (g0 k : Nat) (x y z : Value) : World := ((w1.setCell ⟨g0, k * 3, none⟩ x).setCell ⟨g0, k * 3 + 1, none⟩ y).setCell ⟨g0, k * 3 + 2, none⟩ z

theorem put3_same {w1 : World} {g0 k : Nat} {x y z a b c : Value} (h0 : w1.cell? ⟨g0, k * 3, none⟩ = some a) (h1 : w1.cell? ⟨g0, k * 3 + 1, none⟩ = some b) (h2 : w1.cell? ⟨g0, k * 3 + 2, none⟩ = some c) :
    (put3 w1 g0 k x y z).cell? ⟨g0, k * 3, none⟩ = some x ∧ (put3 w1 g0 k x y z).cell? ⟨g0, k * 3 + 1, none⟩ = some y ∧ (put3 w1 g0 k x y z).cell? ⟨g0, k * 3 + 2, none⟩ = some z := by
  refine ⟨?_, ?_, ?_⟩
  · rw [World.cell?_setCell_other _ _ _ _ (by simp), World.cell?_setCell_other _ _ _ _ (by simp)]
    exact World.cell?_setCell_same _ _ _ h0
  · rw [World.cell?_setCell_other _ _ _ _ (by simp)]
    exact World.cell?_setCell_same _ _ _ ((World.cell?_setCell_other _ _ _ _ (by simp)).trans h1)
  · exact World.cell?_setCell_same _ _ _ (((World.cell?_setCell_other _ _ _ _ (by simp)).trans (World.cell?_setCell_other _ _ _ _ (by simp))).trans h2)

theorem put3_far {w1 : World} {g0 k j : Nat} (x y z : Value) (hj : j < k * 3 ∨ k * 3 + 2 < j) : (put3 w1 g0 k x y z).cell? ⟨g0, j, none⟩ = w1.cell? ⟨g0, j, none⟩ := by
  rw [World.cell?_setCell_other _ _ _ _ (by intro hh; simp only [Addr.mk.injEq] at hh; omega), World.cell?_setCell_other _ _ _ _ (by intro hh; simp only [Addr.mk.injEq] at hh; omega), World.cell?_setCell_other _ _ _ _ (by intro hh; simp only [Addr.mk.injEq] at hh; omega)]

theorem put3_block {w1 : World} {g0 k q : Nat} (x y z : Value) (hq : q ≠ g0) : (put3 w1 g0 k x y z).heap[q]? = w1.heap[q]? :=
  (Below.heap_setCell _ _ _ _ hq).trans ((Below.heap_setCell _ _ _ _ hq).trans (Below.heap_setCell _ _ _ _ hq))

theorem put3_size (w1 : World) (g0 k : Nat) (x y z : Value) : (put3 w1 g0 k x y z).heap.size = w1.heap.size := by simp [put3]
theorem put3_frozen (w1 : World) (g0 k : Nat) (x y z : Value) (p : Addr) : (put3 w1 g0 k x y z).frozen? p = w1.frozen? p := by simp [put3]

theorem STo.step {w wr w1 : World} {g0 : Nat} {ss : List (Int × Int × List Int)} {g : Nat → Nat} {k : Nat} (h : STo w wr g0 ss g k) (hk : k < ss.length) (hb : Below wr.heap.size wr w1) {g1 dc : Nat} (h1 : wr.heap.size ≤ g1) (h2 : g1 < w1.heap.size)
    (ho : Own8 g1 (g1 + 1) w1 (.slice (some ⟨g1, 0, none⟩) (ss.getD k (0, 0, [])).2.2.length dc) (ss.getD k (0, 0, [])).2.2) :
    STo w (put3 w1 g0 k (.int .i64 (ss.getD k (0, 0, [])).1) (.int .i64 (ss.getD k (0, 0, [])).2.1) (.slice (some ⟨g1, 0, none⟩) (ss.getD k (0, 0, [])).2.2.length dc)) g0 ss (fun i => if i = k then g1 else g i) (k + 1) := by
  have hlt := h.lt
  have hbase := h.base
  obtain ⟨⟨x0, c0⟩, f0⟩ := h.cell hb (k * 3) (by omega)
  obtain ⟨⟨x1, c1⟩, f1⟩ := h.cell hb (k * 3 + 1) (by omega)
  obtain ⟨⟨x2, c2⟩, f2⟩ := h.cell hb (k * 3 + 2) (by omega)
  have hwsz := h.below.size
  have hbsz := hb.size
  have hsame := fun x y z => put3_same (x := x) (y := y) (z := z) c0 c1 c2
  refine ⟨?_, hbase, ?_, fun i hi => ?_, fun i j hi hj he => ?_⟩
  · exact (((h.below.trans (hb.mono hwsz)).setCell (p := ⟨g0, k * 3, none⟩) hbase _).setCell (p := ⟨g0, k * 3 + 1, none⟩) hbase _).setCell (p := ⟨g0, k * 3 + 2, none⟩) hbase _
  · obtain ⟨cur, hc, hs⟩ := h.spine
    rw [← hb.block g0 hlt] at hc
    have e1 := heap_setCell_same w1 g0 (k * 3) cur _ (.int .i64 (ss.getD k (0, 0, [])).1) hc
    have e2 := heap_setCell_same _ g0 (k * 3 + 1) _ _ (.int .i64 (ss.getD k (0, 0, [])).2.1) e1
    exact ⟨_, heap_setCell_same _ g0 (k * 3 + 2) _ _ _ e2, by simpa using hs⟩
  · by_cases hik : i = k
    · subst hik
      simp only [if_true]
      refine ⟨by omega, by rw [put3_size]; exact h2, some ⟨g1, 0, none⟩, dc, ?_, ?_, ?_, ?_, ?_, ?_⟩
      · rw [Nat.zero_add]; exact (hsame _ _ _).1
      · rw [Nat.zero_add]; exact (hsame _ _ _).2.1
      · rw [Nat.zero_add]; exact (hsame _ _ _).2.2
      · rw [Nat.zero_add, put3_frozen]; exact f0
      · rw [Nat.zero_add, put3_frozen]; exact f1
      · exact ho.kept (by rw [put3_size]; omega) fun q q1 q2 q3 => put3_block _ _ _ (by omega)
    · simp only [if_neg hik]
      obtain ⟨e1, e2, da, dc0, k1, k2, k3, k4, k5, k6⟩ := h.els i (by omega)
      refine ⟨e1, by rw [put3_size]; omega, da, dc0, ?_, ?_, ?_, ?_, ?_, ?_⟩
      · rw [put3_far _ _ _ (by omega), hb.cell (p := ⟨g0, 0 + i * 3, none⟩) hlt]; exact k1
      · rw [put3_far _ _ _ (by omega), hb.cell (p := ⟨g0, 0 + i * 3 + 1, none⟩) hlt]; exact k2
      · rw [put3_far _ _ _ (by omega), hb.cell (p := ⟨g0, 0 + i * 3 + 2, none⟩) hlt]; exact k3
      · rw [put3_frozen, hb.frozen (p := ⟨g0, 0 + i * 3, none⟩) hlt]; exact k4
      · rw [put3_frozen, hb.frozen (p := ⟨g0, 0 + i * 3 + 1, none⟩) hlt]; exact k5
      · exact k6.kept (by rw [put3_size]; omega) fun q q1 q2 q3 => (put3_block _ _ _ (by omega)).trans (hb.block q q3)
  · by_cases hik : i = k
    · by_cases hjk : j = k
      · omega
      · rw [if_pos hik, if_neg hjk] at he
        have := (h.els j (by omega)).2.1
        omega
    · by_cases hjk : j = k
      · rw [if_neg hik, if_pos hjk] at he
        have := (h.els i (by omega)).2.1
        omega
      · rw [if_neg hik, if_neg hjk] at he
        exact h.inj i j (by omega) (by omega) he

theorem STo.own {w wr : World} {g0 : Nat} {ss : List (Int × Int × List Int)} {g : Nat → Nat} (h : STo w wr g0 ss g ss.length) (cap : Nat) : SOwn g0 wr.heap.size wr (.slice (some ⟨g0, 0, none⟩) ss.length cap) ss := by
  refine ⟨_, cap, rfl, fun _ => ⟨g0, 0, rfl, Nat.le_refl _, h.lt, h.lt, g, fun i hi => ?_, h.inj⟩⟩
  obtain ⟨e1, e2, e3⟩ := h.els i hi
  exact ⟨by omega, by omega, by omega, e2, e3⟩

theorem STo.start (w : World) (ss : List (Int × Int × List Int)) (cur : Array Value) (hs : cur.size = ss.length * 3) : STo w (w.alloc (.cells cur 46)) w.heap.size ss (fun _ => 0) 0 :=
  ⟨(Below.refl _ _).alloc (Nat.le_refl _) _, Nat.le_refl _, ⟨cur, heap_alloc_new w _, hs⟩, fun _ hi => absurd hi (Nat.not_lt_zero _), fun _ _ hi => absurd hi (Nat.not_lt_zero _)⟩

theorem make_step (n : Nat) (hb : n ≤ 1048576) (w : World) : ∃ cur, cur.size = n * 3 ∧ (Instr.makeSlice 47 (.int .i64 (n : Int)) (.int .i64 (n : Int))).run Try.prog w = .ok (.slice (some ⟨w.heap.size, 0, none⟩) n n) (w.alloc (.cells cur 46)) := by
  obtain ⟨i, hi, hzz⟩ := Option.map_eq_some_iff.1 infoStep
  simp only [Prod.mk.injEq] at hzz
  obtain ⟨hz, hs, hby⟩ := hzz
  have hr := run_make (P := Try.prog) w 47 46 i _ Try.underlying47 hi hz .i64 .i64 n n (by omega) (Int.le_refl _) (by rw [hby]; omega) (by omega)
  simp only [Int.toNat_natCast, hs] at hr
  exact ⟨_, size_madeCells _ _, hr⟩

end Go.Proofs.Ytbadedhliplkeaa
