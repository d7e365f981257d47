import Derived.Test.YtanebeebphaolaaSt3
namespace Go.Proofs.Ytanebeebphaolaa
open Go.RowKit

set_option maxHeartbeats 1000000 in
theorem toStep_any (q q2 : Int) (a : Option Addr) (cap : Nat) (zs : List Int) (w : World) (hv : Bts w (.slice a zs.length cap) zs) (hn : zs.length ≤ 281474976710656) :
    Calls Try.prog 64 #[.agg #[.int .i64 q, .int .i64 q2, .slice a zs.length cap]] w fun e w' => ∃ g, e = .returned (.agg #[.int .i64 q, .int .i64 q2, .slice (some ⟨g, 0, none⟩) zs.length zs.length]) ∧ w.heap.size ≤ g ∧ g < w'.heap.size ∧ Own8 g (g + 1) w' (.slice (some ⟨g, 0, none⟩) zs.length zs.length) zs ∧ Below w.heap.size w w' := by
  have hv3 := fun o1 o2 o3 => ((hv.alloc o1).alloc o2).alloc o3
  go_enter Try.func64, Try.ntmps64
  go_wp2_with fail
  refine (toByteS_any _ zs _ (hv3 _ _ _) hn).mono ?_
  rintro e w' ⟨rfl, rfl⟩
  have h4 := four_allocs w zs hv.small
  clear hv3
  go_wp2
  refine bodyPost_ret (v := .agg #[.int .i64 q, .int .i64 q2, .slice (some ⟨w.heap.size + 3, 0, none⟩) zs.length zs.length]) (by simp [results, Try.results64, go_sem]) rfl ⟨w.heap.size + 3, rfl, by omega, ?_, ?_, ?_⟩
  · exact (h4 _ _ _).2.2
  · exact (h4 _ _ _).1
  · exact (h4 _ _ _).2.1

theorem infoStep : (Try.prog.info? 46).map (fun i => (i.zero, i.size, i.bytes)) = some (some (.agg #[.int .i64 0, .int .i64 0, .slice none 0 0]), 3, 40) := by kernel_rfl

/-- the first k elements are laid in the new spine at block g0 -/
structure STo (w wr : World) (g0 : Nat) (ss : List (Int × Int × List Int)) (g : Nat → Nat) (k : Nat) : Prop where
  below : Below w.heap.size w wr
  base : w.heap.size ≤ g0
  spine : ∃ cur, wr.heap[g0]? = some (.cells cur 46 (0, 0)) ∧ cur.size = ss.length * 3
  els : ∀ i, i < k → g0 < g i ∧ g i < wr.heap.size ∧ SEl wr g0 0 (g i) i (ss.getD i (0, 0, []))
  inj : ∀ i j, i < k → j < k → g i = g j → i = j

theorem STo.lt {w wr : World} {g0 : Nat} {ss : List (Int × Int × List Int)} {g : Nat → Nat} {k : Nat} (h : STo w wr g0 ss g k) : g0 < wr.heap.size := by
  obtain ⟨cur, hc, _⟩ := h.spine
  by_cases hh : g0 < wr.heap.size
  · exact hh
  · simp [show wr.heap.size ≤ g0 by omega] at hc

theorem STo.cell {w wr : World} {g0 : Nat} {ss : List (Int × Int × List Int)} {g : Nat → Nat} {k : Nat} (h : STo w wr g0 ss g k) {w1 : World} (hb : Below wr.heap.size wr w1) (j : Nat) (hj : j < ss.length * 3) : (∃ x, w1.cell? ⟨g0, j, none⟩ = some x) ∧ w1.frozen? ⟨g0, j, none⟩ = false := by
  have hlt := h.lt
  obtain ⟨cur, hc, hs⟩ := h.spine
  rw [← hb.block g0 hlt] at hc
  constructor
  · rw [cell_of_row w1 g0 j cur _ (0, 0) hc]
    exact ⟨cur[j]'(by omega), by simp [hs, hj]⟩
  · exact frozen_of_row w1 g0 j cur _ hc

/-- three cells stored -/
abbrev put3 (w1 : World) (g0 k : Nat) (x y z : Value) : World := ((w1.setCell ⟨g0, k * 3, none⟩ x).setCell ⟨g0, k * 3 + 1, none⟩ y).setCell ⟨g0, k * 3 + 2, none⟩ z

theorem put3_same {w1 : World} {g0 k : Nat} {x y z a b c : Value} (h0 : w1.cell? ⟨g0, k * 3, none⟩ = some a) (h1 : w1.cell? ⟨g0, k * 3 + 1, none⟩ = some b) (h2 : w1.cell? ⟨g0, k * 3 + 2, none⟩ = some c) :
    (put3 w1 g0 k x y z).cell? ⟨g0, k * 3, none⟩ = some x ∧ (put3 w1 g0 k x y z).cell? ⟨g0, k * 3 + 1, none⟩ = some y ∧ (put3 w1 g0 k x y z).cell? ⟨g0, k * 3 + 2, none⟩ = some z := by
  refine ⟨?_, ?_, ?_⟩
  · rw [World.cell?_setCell_other _ _ _ _ (by simp), World.cell?_setCell_other _ _ _ _ (by simp)]
    exact World.cell?_setCell_same _ _ _ h0
  · rw [World.cell?_setCell_other _ _ _ _ (by simp)]
    exact World.cell?_setCell_same _ _ _ ((World.cell?_setCell_other _ _ _ _ (by simp)).trans h1)
  · exact World.cell?_setCell_same _ _ _ (((World.cell?_setCell_other _ _ _ _ (by simp)).trans (World.cell?_setCell_other _ _ _ _ (by simp))).trans h2)

theorem put3_far {w1 : World} {g0 k j : Nat} (x y z : Value) (hj : j < k * 3 ∨ k * 3 + 2 < j) : (put3 w1 g0 k x y z).cell? ⟨g0, j, none⟩ = w1.cell? ⟨g0, j, none⟩ := by
  rw [World.cell?_setCell_other _ _ _ _ (by intro hh; simp only [Addr.mk.injEq] at hh; omega), World.cell?_setCell_other _ _ _ _ (by intro hh; simp only [Addr.mk.injEq] at hh; omega), World.cell?_setCell_other _ _ _ _ (by intro hh; simp only [Addr.mk.injEq] at hh; omega)]

theorem put3_block {w1 : World} {g0 k q : Nat} (x y z : Value) (hq : q ≠ g0) : (put3 w1 g0 k x y z).heap[q]? = w1.heap[q]? :=
  (Below.heap_setCell _ _ _ _ hq).trans ((Below.heap_setCell _ _ _ _ hq).trans (Below.heap_setCell _ _ _ _ hq))

theorem put3_size (w1 : World) (g0 k : Nat) (x y z : Value) : (put3 w1 g0 k x y z).heap.size = w1.heap.size := by simp [put3]
theorem put3_frozen (w1 : World) (g0 k : Nat) (x y z : Value) (p : Addr) : (put3 w1 g0 k x y z).frozen? p = w1.frozen? p := by simp [put3]

theorem STo.step {w wr w1 : World} {g0 : Nat} {ss : List (Int × Int × List Int)} {g : Nat → Nat} {k : Nat} (h : STo w wr g0 ss g k) (hk : k < ss.length) (hb : Below wr.heap.size wr w1) {g1 dc : Nat} (h1 : wr.heap.size ≤ g1) (h2 : g1 < w1.heap.size)
    (ho : Own8 g1 (g1 + 1) w1 (.slice (some ⟨g1, 0, none⟩) (ss.getD k (0, 0, [])).2.2.length dc) (ss.getD k (0, 0, [])).2.2) :
    STo w (put3 w1 g0 k (.int .i64 (ss.getD k (0, 0, [])).1) (.int .i64 (ss.getD k (0, 0, [])).2.1) (.slice (some ⟨g1, 0, none⟩) (ss.getD k (0, 0, [])).2.2.length dc)) g0 ss (fun i => if i = k then g1 else g i) (k + 1) := by
  have hlt := h.lt
  have hbase := h.base
  obtain ⟨⟨x0, c0⟩, f0⟩ := h.cell hb (k * 3) (by omega)
  obtain ⟨⟨x1, c1⟩, f1⟩ := h.cell hb (k * 3 + 1) (by omega)
  obtain ⟨⟨x2, c2⟩, f2⟩ := h.cell hb (k * 3 + 2) (by omega)
  have hwsz := h.below.size
  have hbsz := hb.size
  have hsame := fun x y z => put3_same (x := x) (y := y) (z := z) c0 c1 c2
  refine ⟨?_, hbase, ?_, fun i hi => ?_, fun i j hi hj he => ?_⟩
  · exact (((h.below.trans (hb.mono hwsz)).setCell (p := ⟨g0, k * 3, none⟩) hbase _).setCell (p := ⟨g0, k * 3 + 1, none⟩) hbase _).setCell (p := ⟨g0, k * 3 + 2, none⟩) hbase _
  · obtain ⟨cur, hc, hs⟩ := h.spine
    rw [← hb.block g0 hlt] at hc
    have e1 := heap_setCell_same w1 g0 (k * 3) cur _ (.int .i64 (ss.getD k (0, 0, [])).1) hc
    have e2 := heap_setCell_same _ g0 (k * 3 + 1) _ _ (.int .i64 (ss.getD k (0, 0, [])).2.1) e1
    exact ⟨_, heap_setCell_same _ g0 (k * 3 + 2) _ _ _ e2, by simpa using hs⟩
  · by_cases hik : i = k
    · subst hik
      simp only [if_true]
      refine ⟨by omega, by rw [put3_size]; exact h2, some ⟨g1, 0, none⟩, dc, ?_, ?_, ?_, ?_, ?_, ?_⟩
      · rw [Nat.zero_add]; exact (hsame _ _ _).1
      · rw [Nat.zero_add]; exact (hsame _ _ _).2.1
      · rw [Nat.zero_add]; exact (hsame _ _ _).2.2
      · rw [Nat.zero_add, put3_frozen]; exact f0
      · rw [Nat.zero_add, put3_frozen]; exact f1
      · exact ho.kept (by rw [put3_size]; omega) fun q q1 q2 q3 => put3_block _ _ _ (by omega)
    · simp only [if_neg hik]
      obtain ⟨e1, e2, da, dc0, k1, k2, k3, k4, k5, k6⟩ := h.els i (by omega)
      refine ⟨e1, by rw [put3_size]; omega, da, dc0, ?_, ?_, ?_, ?_, ?_, ?_⟩
      · rw [put3_far _ _ _ (by omega), hb.cell (p := ⟨g0, 0 + i * 3, none⟩) hlt]; exact k1
      · rw [put3_far _ _ _ (by omega), hb.cell (p := ⟨g0, 0 + i * 3 + 1, none⟩) hlt]; exact k2
      · rw [put3_far _ _ _ (by omega), hb.cell (p := ⟨g0, 0 + i * 3 + 2, none⟩) hlt]; exact k3
      · rw [put3_frozen, hb.frozen (p := ⟨g0, 0 + i * 3, none⟩) hlt]; exact k4
      · rw [put3_frozen, hb.frozen (p := ⟨g0, 0 + i * 3 + 1, none⟩) hlt]; exact k5
      · exact k6.kept (by rw [put3_size]; omega) fun q q1 q2 q3 => (put3_block _ _ _ (by omega)).trans (hb.block q q3)
  · by_cases hik : i = k
    · by_cases hjk : j = k
      · omega
      · rw [if_pos hik, if_neg hjk] at he
        have := (h.els j (by omega)).2.1
        omega
    · by_cases hjk : j = k
      · rw [if_neg hik, if_pos hjk] at he
        have := (h.els i (by omega)).2.1
        omega
      · rw [if_neg hik, if_neg hjk] at he
        exact h.inj i j (by omega) (by omega) he

theorem STo.own {w wr : World} {g0 : Nat} {ss : List (Int × Int × List Int)} {g : Nat → Nat} (h : STo w wr g0 ss g ss.length) (cap : Nat) : SOwn g0 wr.heap.size wr (.slice (some ⟨g0, 0, none⟩) ss.length cap) ss := by
  refine ⟨_, cap, rfl, fun _ => ⟨g0, 0, rfl, Nat.le_refl _, h.lt, h.lt, g, fun i hi => ?_, h.inj⟩⟩
  obtain ⟨e1, e2, e3⟩ := h.els i hi
  exact ⟨by omega, by omega, by omega, e2, e3⟩

theorem STo.start (w : World) (ss : List (Int × Int × List Int)) (cur : Array Value) (hs : cur.size = ss.length * 3) : STo w (w.alloc (.cells cur 46)) w.heap.size ss (fun _ => 0) 0 :=
  ⟨(Below.refl _ _).alloc (Nat.le_refl _) _, Nat.le_refl _, ⟨cur, heap_alloc_new w _, hs⟩, fun _ hi => absurd hi (Nat.not_lt_zero _), fun _ _ hi => absurd hi (Nat.not_lt_zero _)⟩

theorem make_step (n : Nat) (hb : n ≤ 1048576) (w : World) : ∃ cur, cur.size = n * 3 ∧ (Instr.makeSlice 47 (.int .i64 (n : Int)) (.int .i64 (n : Int))).run Try.prog w = .ok (.slice (some ⟨w.heap.size, 0, none⟩) n n) (w.alloc (.cells cur 46)) := by
  obtain ⟨i, hi, hzz⟩ := Option.map_eq_some_iff.1 infoStep
  simp only [Prod.mk.injEq] at hzz
  obtain ⟨hz, hs, hby⟩ := hzz
  have hr := run_make (P := Try.prog) w 47 46 i _ Try.underlying47 hi hz .i64 .i64 n n (by omega) (Int.le_refl _) (by rw [hby]; omega) (by omega)
  simp only [Int.toNat_natCast, hs] at hr
  exact ⟨_, size_madeCells _ _, hr⟩

set_option maxHeartbeats 2000000 in
theorem toStepS_any (v : Value) (ss : List (Int × Int × List Int)) (w : World) (hv : SRead w v ss) (hn : ss.length ≤ 1048576) (hn2 : ∀ i, (ss.getD i (0, 0, [])).2.2.length ≤ 1048576) :
    Calls Try.prog 34 #[v] w fun e w' => e = .returned (.slice (some ⟨w.heap.size, 0, none⟩) ss.length ss.length) ∧ SOwn w.heap.size w'.heap.size w' (.slice (some ⟨w.heap.size, 0, none⟩) ss.length ss.length) ss ∧ Below w.heap.size w w' := by
  obtain ⟨a, cap, rfl, hc⟩ := hv
  obtain ⟨cur, hcs, hmk⟩ := make_step ss.length hn w
  have hT := STo.start w ss cur hcs
  by_cases hz : 0 < ss.length
  · obtain ⟨b, off, rfl, hcell⟩ := hc hz
    clear hc hcs
    go_enter Try.func34, Try.ntmps34
    go_wp2
    go_loopw [4] (fun i wr => ∃ k : Nat, k ≤ ss.length ∧ i = .int .i64 k ∧ ∃ g, STo w wr w.heap.size ss g k) (fun i _ => ss.length - (intOf i).toNat)
    case atStart => exact ⟨0, Nat.zero_le _, rfl, _, hT⟩
    case round =>
      obtain ⟨k, hk, rfl, g, hP⟩ := hrel
      clear hT hmk
      by_cases hlt : k < ss.length
      · obtain ⟨da, dc, g1, g2, g3, g5⟩ := hcell k hlt
        have hbw := World.block_lt_of_cell? _ _ g1
        rw [← hP.below.cell (p := ⟨b, off + k * 3, none⟩) hbw] at g1
        rw [← hP.below.cell (p := ⟨b, off + k * 3 + 1, none⟩) hbw] at g2
        rw [← hP.below.cell (p := ⟨b, off + k * 3 + 2, none⟩) hbw] at g3
        have g4 := g5.below hP.below
        have hn3 := hn2 k
        have hstep := fun w1 hb g1 h1 h2 => hP.step (w1 := w1) (g1 := g1) (dc := (ss.getD k (0, 0, [])).2.2.length) hlt hb h1 h2
        have HST := fun w1 hb g1 h1 h2 => (show Hid _ from hstep w1 hb g1 h1 h2)
        have hcl := fun w1 hb => (⟨hP.cell (w1 := w1) hb (k * 3) (by omega), hP.cell (w1 := w1) hb (k * 3 + 1) (by omega), hP.cell (w1 := w1) hb (k * 3 + 2) (by omega)⟩ : _ ∧ _ ∧ _)
        clear hstep hcell g5
        generalize ss.getD k (0, 0, []) = p at g1 g2 g3 g4 hn3 HST
        obtain ⟨q, q2, zs⟩ := p
        simp only at g1 g2 g3 g4 hn3
        go_wp2_with fail
        refine (toStep_any _ _ _ _ zs _ g4 (by omega)).mono ?_
        rintro e w1 ⟨gn, rfl, h1, h2, ho, hb⟩
        obtain ⟨⟨⟨x0, c0⟩, f0⟩, ⟨⟨x1, c1⟩, f1⟩, ⟨⟨x2, c2⟩, f2⟩⟩ := hcl w1 hb
        have hst := (HST w1 hb gn h1 h2).out ho
        clear hcl HST g1 g2 g3 g4 ho hb
        go_wp2
        go_roundw
        case rel => exact ⟨k + 1, by omega, by go_num, _, hst⟩
        case measure => simp [intOf]; omega
      · have hke : k = ss.length := by omega
        subst hke
        have hO := hP.own ss.length
        have hB := hP.below
        clear hcell hP
        go_wp2
        go_ret
        exact ⟨rfl, hO, hB⟩
  · have hz0 : ss = [] := List.eq_nil_of_length_eq_zero (by omega)
    subst hz0
    have hmk0 : (Instr.makeSlice 47 (.int .i64 0) (.int .i64 0)).run Try.prog w = .ok (.slice (some ⟨w.heap.size, 0, none⟩) 0 0) (w.alloc (.cells cur 46)) := hmk
    have hB := hT.below
    clear hc hmk hcs hT
    go_enter Try.func34, Try.ntmps34
    go_wp2
    go_loopw [4] (fun i wr => i = .int .i64 0 ∧ wr = w.alloc (.cells cur 46)) (fun _ _ => 0)
    case atStart => exact ⟨rfl, rfl⟩
    case round =>
      obtain ⟨rfl, rfl⟩ := hrel
      clear hmk0
      go_wp2
      go_ret
      exact ⟨rfl, SOwn.empty _ _ _ _ _, hB⟩
end Go.Proofs.Ytanebeebphaolaa
