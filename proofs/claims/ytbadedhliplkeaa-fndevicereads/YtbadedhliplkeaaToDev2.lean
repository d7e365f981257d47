import Derived.Test.YtbadedhliplkeaaToDev
namespace Go.Proofs.Ytbadedhliplkeaa
open Go.RowKit

theorem four_allocs' (w : World) (zs : List Int) (h : ∀ i, 0 ≤ zs.getD i 0 ∧ zs.getD i 0 < 256) (o1 o2 o3 : Obj) :
    Own8 (w.heap.size + 1 + 1 + 1) (w.heap.size + 4) ((((w.alloc o1).alloc o2).alloc o3).alloc (.cells (u8s zs) 5)) (.slice (some ⟨w.heap.size + 1 + 1 + 1, 0, none⟩) zs.length zs.length) zs ∧
      Below w.heap.size w ((((w.alloc o1).alloc o2).alloc o3).alloc (.cells (u8s zs) 5)) :=
  ⟨Own8.made _ zs h _ (by simp), ((((Below.refl _ _).alloc (Nat.le_refl _) _).alloc (by simp) _).alloc (by simp; omega) _).alloc (by simp; omega) _⟩

theorem four_allocs (w : World) (zs : List Int) (h : ∀ i, 0 ≤ zs.getD i 0 ∧ zs.getD i 0 < 256) (o1 o2 o3 : Obj) :
    Own8 (w.heap.size + 3) (w.heap.size + 3 + 1) ((((w.alloc o1).alloc o2).alloc o3).alloc (.cells (u8s zs) 5)) (.slice (some ⟨w.heap.size + 3, 0, none⟩) zs.length zs.length) zs ∧
      Below w.heap.size w ((((w.alloc o1).alloc o2).alloc o3).alloc (.cells (u8s zs) 5)) ∧ w.heap.size + 3 < ((((w.alloc o1).alloc o2).alloc o3).alloc (.cells (u8s zs) 5)).heap.size :=
  ⟨Own8.made _ zs h _ (by simp), ((((Below.refl _ _).alloc (Nat.le_refl _) _).alloc (by simp) _).alloc (by simp; omega) _).alloc (by simp; omega) _, by simp⟩

set_option maxHeartbeats 400000 in
theorem toPending_any (q : Int) (a : Option Addr) (cap : Nat) (zs : List Int) (w : World) (hv : Bts w (.slice a zs.length cap) zs) (hn : zs.length ≤ 281474976710656) :
    Calls Try.prog 63 #[.agg #[.int .i64 q, .slice a zs.length cap]] w fun e w' => ∃ g, e = .returned (.agg #[.int .i64 q, .slice (some ⟨g, 0, none⟩) zs.length zs.length]) ∧ w.heap.size ≤ g ∧ g < w'.heap.size ∧ Own8 g (g + 1) w' (.slice (some ⟨g, 0, none⟩) zs.length zs.length) zs ∧ Below w.heap.size w w' := by
  have hv3 := fun o1 o2 o3 => ((hv.alloc o1).alloc o2).alloc o3
  go_enter Try.func63, Try.ntmps63
  go_wp2_with fail
  refine (toByteS_any _ zs _ (hv3 _ _ _) hn).mono ?_
  rintro e w' ⟨rfl, rfl⟩
  have h4 := four_allocs w zs hv.small
  clear hv3
  go_wp2
  refine bodyPost_ret (v := .agg #[.int .i64 q, .slice (some ⟨w.heap.size + 3, 0, none⟩) zs.length zs.length]) (by simp [results, Try.results63, go_sem]) rfl ⟨w.heap.size + 3, rfl, by omega, ?_, ?_, ?_⟩
  · exact (h4 _ _ _).2.2
  · exact (h4 _ _ _).1
  · exact (h4 _ _ _).2.1

theorem infoPend : (Try.prog.info? 38).map (fun i => (i.zero, i.size, i.bytes)) = some (some (.agg #[.int .i64 0, .slice none 0 0]), 2, 32) := by kernel_rfl

/-- the first k elements are laid in the new spine at block g0 -/
structure PTo (w wr : World) (g0 : Nat) (ps : List (Int × List Int)) (g : Nat → Nat) (k : Nat) : Prop where
  below : Below w.heap.size w wr
  base : w.heap.size ≤ g0
  spine : ∃ cur, wr.heap[g0]? = some (.cells cur 38 (0, 0)) ∧ cur.size = ps.length * 2
  els : ∀ i, i < k → g0 < g i ∧ g i < wr.heap.size ∧ PEl wr g0 0 (g i) i (ps.getD i (0, []))
  inj : ∀ i j, i < k → j < k → g i = g j → i = j

theorem PTo.lt {w wr : World} {g0 : Nat} {ps : List (Int × List Int)} {g : Nat → Nat} {k : Nat} (h : PTo w wr g0 ps g k) : g0 < wr.heap.size := by
  obtain ⟨cur, hc, _⟩ := h.spine
  by_cases hh : g0 < wr.heap.size
  · exact hh
  · simp [show wr.heap.size ≤ g0 by omega] at hc

theorem PTo.cell {w wr : World} {g0 : Nat} {ps : List (Int × List Int)} {g : Nat → Nat} {k : Nat} (h : PTo w wr g0 ps g k) {w1 : World} (hb : Below wr.heap.size wr w1) (j : Nat) (hj : j < ps.length * 2) : (∃ x, w1.cell? ⟨g0, j, none⟩ = some x) ∧ w1.frozen? ⟨g0, j, none⟩ = false := by
  have hlt := h.lt
  obtain ⟨cur, hc, hs⟩ := h.spine
  rw [← hb.block g0 hlt] at hc
  constructor
  · rw [cell_of_row w1 g0 j cur _ (0, 0) hc]
    exact ⟨cur[j]'(by omega), by simp [hs, hj]⟩
  · exact frozen_of_row w1 g0 j cur _ hc

theorem PTo.step {w wr w1 : World} {g0 : Nat} {ps : List (Int × List Int)} {g : Nat → Nat} {k : Nat} (h : PTo w wr g0 ps g k) (hk : k < ps.length) (hb : Below wr.heap.size wr w1) {g1 dc : Nat} (h1 : wr.heap.size ≤ g1) (h2 : g1 < w1.heap.size)
    (ho : Own8 g1 (g1 + 1) w1 (.slice (some ⟨g1, 0, none⟩) (ps.getD k (0, [])).2.length dc) (ps.getD k (0, [])).2) :
    PTo w ((w1.setCell ⟨g0, k * 2, none⟩ (.int .i64 (ps.getD k (0, [])).1)).setCell ⟨g0, k * 2 + 1, none⟩ (.slice (some ⟨g1, 0, none⟩) (ps.getD k (0, [])).2.length dc)) g0 ps (fun i => if i = k then g1 else g i) (k + 1) := by
  have hlt := h.lt
  have hbase := h.base
  obtain ⟨⟨x0, c0⟩, f0⟩ := h.cell hb (k * 2) (by omega)
  obtain ⟨⟨x1, c1⟩, f1⟩ := h.cell hb (k * 2 + 1) (by omega)
  have hwsz := h.below.size
  have hbsz := hb.size
  have hother : ∀ q, q ≠ g0 → ((w1.setCell ⟨g0, k * 2, none⟩ (.int .i64 (ps.getD k (0, [])).1)).setCell ⟨g0, k * 2 + 1, none⟩ (.slice (some ⟨g1, 0, none⟩) (ps.getD k (0, [])).2.length dc)).heap[q]? = w1.heap[q]? := fun q hq => by
    rw [Below.heap_setCell _ _ _ _ (by simpa using hq), Below.heap_setCell _ _ _ _ (by simpa using hq)]
  refine ⟨?_, hbase, ?_, fun i hi => ?_, fun i j hi hj he => ?_⟩
  · exact ((h.below.trans (hb.mono hwsz)).setCell (p := ⟨g0, k * 2, none⟩) hbase _).setCell (p := ⟨g0, k * 2 + 1, none⟩) hbase _
  · obtain ⟨cur, hc, hs⟩ := h.spine
    rw [← hb.block g0 hlt] at hc
    have e1 := heap_setCell_same w1 g0 (k * 2) cur _ (.int .i64 (ps.getD k (0, [])).1) hc
    exact ⟨_, heap_setCell_same _ g0 (k * 2 + 1) _ _ _ e1, by simpa using hs⟩
  · by_cases hik : i = k
    · subst hik
      rw [if_pos rfl]
      refine ⟨by omega, by simpa using h2, some ⟨g1, 0, none⟩, dc, ?_, ?_, ?_, ?_⟩
      · rw [Nat.zero_add, World.cell?_setCell_other _ _ _ _ (by intro hh; simp only [Addr.mk.injEq] at hh; omega)]
        exact World.cell?_setCell_same _ _ _ c0
      · rw [Nat.zero_add]
        exact World.cell?_setCell_same _ _ _ ((World.cell?_setCell_other _ _ _ _ (by intro hh; simp only [Addr.mk.injEq] at hh; omega)).trans c1)
      · rw [Nat.zero_add]; simpa using f0
      · exact ho.kept (by simp) fun q q1 q2 q3 => hother q (by omega)
    · rw [if_neg hik]
      obtain ⟨e1, e2, da, dc0, k1, k2, k3, k4⟩ := h.els i (by omega)
      refine ⟨e1, by simp; omega, da, dc0, ?_, ?_, ?_, ?_⟩
      · rw [World.cell?_setCell_other _ _ _ _ (by intro hh; simp only [Addr.mk.injEq] at hh; omega), World.cell?_setCell_other _ _ _ _ (by intro hh; simp only [Addr.mk.injEq] at hh; omega), hb.cell (p := ⟨g0, 0 + i * 2, none⟩) hlt]; exact k1
      · rw [World.cell?_setCell_other _ _ _ _ (by intro hh; simp only [Addr.mk.injEq] at hh; omega), World.cell?_setCell_other _ _ _ _ (by intro hh; simp only [Addr.mk.injEq] at hh; omega), hb.cell (p := ⟨g0, 0 + i * 2 + 1, none⟩) hlt]; exact k2
      · simp only [World.frozen?_setCell]; rw [hb.frozen (p := ⟨g0, 0 + i * 2, none⟩) hlt]; exact k3
      · refine k4.kept (by simp; omega) fun q q1 q2 q3 => ?_
        rw [hother q (by omega)]
        exact hb.block q q3
  · by_cases hik : i = k
    · by_cases hjk : j = k
      · omega
      · rw [if_pos hik, if_neg hjk] at he
        have := (h.els j (by omega)).2.1
        omega
    · by_cases hjk : j = k
      · rw [if_neg hik, if_pos hjk] at he
        have := (h.els i (by omega)).2.1
        omega
      · rw [if_neg hik, if_neg hjk] at he
        exact h.inj i j (by omega) (by omega) he

theorem PTo.own {w wr : World} {g0 : Nat} {ps : List (Int × List Int)} {g : Nat → Nat} (h : PTo w wr g0 ps g ps.length) (cap : Nat) : POwn g0 wr.heap.size wr (.slice (some ⟨g0, 0, none⟩) ps.length cap) ps := by
  refine ⟨_, cap, rfl, fun _ => ⟨g0, 0, rfl, Nat.le_refl _, h.lt, h.lt, g, fun i hi => ?_, h.inj⟩⟩
  obtain ⟨e1, e2, e3⟩ := h.els i hi
  exact ⟨by omega, by omega, by omega, e2, e3⟩

theorem PTo.start (w : World) (ps : List (Int × List Int)) (cur : Array Value) (hs : cur.size = ps.length * 2) : PTo w (w.alloc (.cells cur 38)) w.heap.size ps (fun _ => 0) 0 :=
  ⟨(Below.refl _ _).alloc (Nat.le_refl _) _, Nat.le_refl _, ⟨cur, heap_alloc_new w _, hs⟩, fun _ hi => absurd hi (Nat.not_lt_zero _), fun _ _ hi => absurd hi (Nat.not_lt_zero _)⟩

theorem make_pend (n : Nat) (hb : n ≤ 1048576) (w : World) : ∃ cur, cur.size = n * 2 ∧ (Instr.makeSlice 23 (.int .i64 (n : Int)) (.int .i64 (n : Int))).run Try.prog w = .ok (.slice (some ⟨w.heap.size, 0, none⟩) n n) (w.alloc (.cells cur 38)) := by
  obtain ⟨i, hi, hzz⟩ := Option.map_eq_some_iff.1 infoPend
  simp only [Prod.mk.injEq] at hzz
  obtain ⟨hz, hs, hby⟩ := hzz
  have hr := run_make (P := Try.prog) w 23 38 i _ Try.underlying23 hi hz .i64 .i64 n n (by omega) (Int.le_refl _) (by rw [hby]; omega) (by omega)
  simp only [Int.toNat_natCast, hs] at hr
  exact ⟨_, size_madeCells _ _, hr⟩

set_option maxHeartbeats 1000000 in
theorem toPendingS_any (v : Value) (ps : List (Int × List Int)) (w : World) (hv : PRead w v ps) (hn : ps.length ≤ 1048576) (hn2 : ∀ i, (ps.getD i (0, [])).2.length ≤ 1048576) :
    Calls Try.prog 55 #[v] w fun e w' => e = .returned (.slice (some ⟨w.heap.size, 0, none⟩) ps.length ps.length) ∧ POwn w.heap.size w'.heap.size w' (.slice (some ⟨w.heap.size, 0, none⟩) ps.length ps.length) ps ∧ Below w.heap.size w w' := by
  obtain ⟨a, cap, rfl, hc⟩ := hv
  obtain ⟨cur, hcs, hmk⟩ := make_pend ps.length hn w
  have hT := PTo.start w ps cur hcs
  by_cases hz : 0 < ps.length
  · obtain ⟨b, off, rfl, hcell⟩ := hc hz
    clear hc hcs
    go_enter Try.func55, Try.ntmps55
    go_wp2
    go_loopw [4] (fun i wr => ∃ k : Nat, k ≤ ps.length ∧ i = .int .i64 k ∧ ∃ g, PTo w wr w.heap.size ps g k) (fun i _ => ps.length - (intOf i).toNat)
    case atStart => exact ⟨0, Nat.zero_le _, rfl, _, hT⟩
    case round =>
      obtain ⟨k, hk, rfl, g, hP⟩ := hrel
      clear hT hmk
      by_cases hlt : k < ps.length
      · obtain ⟨da, dc, g1, g2, g3⟩ := hcell k hlt
        have hbw := World.block_lt_of_cell? _ _ g1
        rw [← hP.below.cell (p := ⟨b, off + k * 2, none⟩) hbw] at g1
        rw [← hP.below.cell (p := ⟨b, off + k * 2 + 1, none⟩) hbw] at g2
        have g4 := g3.below hP.below
        have hn3 := hn2 k
        have hstep := fun w1 hb g1 h1 h2 => hP.step (w1 := w1) (g1 := g1) (dc := (ps.getD k (0, [])).2.length) hlt hb h1 h2
        have HST := fun w1 hb g1 h1 h2 => (show Hid _ from hstep w1 hb g1 h1 h2)
        have hcl := fun w1 hb => (⟨hP.cell (w1 := w1) hb (k * 2) (by omega), hP.cell (w1 := w1) hb (k * 2 + 1) (by omega)⟩ : _ ∧ _)
        clear hstep hcell g3
        generalize ps.getD k (0, []) = p at g1 g2 g4 hn3 HST
        obtain ⟨q, zs⟩ := p
        simp only at g1 g2 g4 hn3
        go_wp2_with fail
        refine (toPending_any _ _ _ zs _ g4 (by omega)).mono ?_
        rintro e w1 ⟨gn, rfl, h1, h2, ho, hb⟩
        obtain ⟨⟨⟨x0, c0⟩, f0⟩, ⟨⟨x1, c1⟩, f1⟩⟩ := hcl w1 hb
        have hst := HST w1 hb gn h1 h2 ho
        clear hcl HST g1 g2 g4 ho hb
        go_wp2
        go_roundw
        case rel => exact ⟨k + 1, by omega, by go_num, _, hst⟩
        case measure => simp [intOf]; omega
      · have hke : k = ps.length := by omega
        subst hke
        have hO := hP.own ps.length
        have hB := hP.below
        clear hcell hP
        go_wp2
        go_ret
        exact ⟨rfl, hO, hB⟩
  · have hz0 : ps = [] := List.eq_nil_of_length_eq_zero (by omega)
    subst hz0
    have hmk0 : (Instr.makeSlice 23 (.int .i64 0) (.int .i64 0)).run Try.prog w = .ok (.slice (some ⟨w.heap.size, 0, none⟩) 0 0) (w.alloc (.cells cur 38)) := hmk
    have hB := hT.below
    clear hc hmk hcs hT
    go_enter Try.func55, Try.ntmps55
    go_wp2
    go_loopw [4] (fun i wr => i = .int .i64 0 ∧ wr = w.alloc (.cells cur 38)) (fun _ _ => 0)
    case atStart => exact ⟨rfl, rfl⟩
    case round =>
      obtain ⟨rfl, rfl⟩ := hrel
      clear hmk0
      go_wp2
      go_ret
      exact ⟨rfl, POwn.empty _ _ _ _ _, hB⟩

/-- a block of three cells -/
def Box3 (w : World) (g : Nat) (x y z : Value) (t : TypeId) : Prop := w.heap[g]? = some (.cells #[x, y, z] t (0, 0))

theorem Box3.cells {w : World} {g : Nat} {x y z : Value} {t : TypeId} (h : Box3 w g x y z t) : w.cell? ⟨g, 0, none⟩ = some x ∧ w.cell? ⟨g, 1, none⟩ = some y ∧ w.cell? ⟨g, 2, none⟩ = some z := by
  unfold Box3 at h
  simp [World.cell?, h]

theorem Box3.free {w : World} {g : Nat} {x y z : Value} {t : TypeId} (h : Box3 w g x y z t) (j : Nat) : w.frozen? ⟨g, j, none⟩ = false := frozen_of_row w g j _ t h

theorem Box3.lt {w : World} {g : Nat} {x y z : Value} {t : TypeId} (h : Box3 w g x y z t) : g < w.heap.size := World.block_lt_of_cell? _ _ h.cells.1

theorem Box3.below {w w' : World} {g : Nat} {x y z : Value} {t : TypeId} (h : Box3 w g x y z t) (k : Below w.heap.size w w') : Box3 w' g x y z t := (k.block g h.lt).trans h

theorem Box3.upd {lo hi : Nat} {w w' : World} {g : Nat} {x y z : Value} {t : TypeId} (h : Box3 w g x y z t) (k : Upd lo hi w w') (hd : g < lo ∨ hi ≤ g) : Box3 w' g x y z t := (k.block g h.lt hd).trans h

theorem Box3.made (w : World) (x y z : Value) (t : TypeId) (g : Nat) (hg : g = w.heap.size) : Box3 (w.alloc (.cells #[x, y, z] t)) g x y z t := by
  subst hg; exact heap_alloc_new w _

theorem Box3.alloc {w : World} {g : Nat} {x y z : Value} {t : TypeId} (h : Box3 w g x y z t) (o : Obj) : Box3 (w.alloc o) g x y z t := h.below ((Below.refl _ _).alloc (Nat.le_refl _) o)

theorem belowA (w : World) (o : Obj) : Below w.heap.size w (w.alloc o) := (Below.refl _ _).alloc (Nat.le_refl _) o

theorem toDevice_end {w w2 : World} {B : Int} {da ca : Option Addr} {dc cc : Nat} {zs : List Int} {ps : List (Int × List Int)} (hs : w.heap.size + 4 ≤ w2.heap.size) (hb : Below w.heap.size w w2) (o1 : Own8 (w.heap.size + 1 + 1 + 1) (w.heap.size + 4) w2 (.slice da zs.length dc) zs) (hP : POwn (w.heap.size + 1 + 1 + 1 + 1) w2.heap.size w2 (.slice ca ps.length cc) ps) (x0 x1 x2 x3 : Value) :
    DOwn w.heap.size ((((w2.setCell ⟨w.heap.size + 1 + 1, 2, none⟩ x0).setCell ⟨w.heap.size + 1, 0, none⟩ x1).setCell ⟨w.heap.size + 1, 1, none⟩ x2).setCell ⟨w.heap.size + 1, 2, none⟩ x3).heap.size ((((w2.setCell ⟨w.heap.size + 1 + 1, 2, none⟩ x0).setCell ⟨w.heap.size + 1, 0, none⟩ x1).setCell ⟨w.heap.size + 1, 1, none⟩ x2).setCell ⟨w.heap.size + 1, 2, none⟩ x3) (.agg #[.int .i64 B, .slice da zs.length dc, .slice ca ps.length cc]) B zs ps ∧
    Below w.heap.size w ((((w2.setCell ⟨w.heap.size + 1 + 1, 2, none⟩ x0).setCell ⟨w.heap.size + 1, 0, none⟩ x1).setCell ⟨w.heap.size + 1, 1, none⟩ x2).setCell ⟨w.heap.size + 1, 2, none⟩ x3) := by
  have u1 : Upd (w.heap.size + 1) (w.heap.size + 3) w2 (w2.setCell ⟨w.heap.size + 1 + 1, 2, none⟩ x0) := (Upd.refl _ _ _).setCell (p := ⟨w.heap.size + 1 + 1, 2, none⟩) (by simp) (by simp) x0
  have u2 := u1.setCell (p := ⟨w.heap.size + 1, 0, none⟩) (by simp) (by simp) x1
  have u3 := u2.setCell (p := ⟨w.heap.size + 1, 1, none⟩) (by simp) (by simp) x2
  have u4 := u3.setCell (p := ⟨w.heap.size + 1, 2, none⟩) (by simp) (by simp) x3
  have e1 := o1.upd u4 (by omega)
  have e2 := hP.upd u4 (by omega)
  refine ⟨⟨da, dc, ca, cc, w.heap.size + 1 + 1 + 1, w.heap.size + 4, w.heap.size + 1 + 1 + 1 + 1, w2.heap.size, rfl, by omega, by simp; omega, by omega, by simp, .inl (by omega), e1, e2⟩, hb.trans (u4.below (by omega) hb.size)⟩

set_option maxHeartbeats 1000000 in
theorem toDevice_any (v : Value) (B : Int) (zs : List Int) (ps : List (Int × List Int)) (w : World) (h : DRead w v B zs ps) (hz : zs.length ≤ 1048576) (hn : ps.length ≤ 1048576) (hn2 : ∀ i, (ps.getD i (0, [])).2.length ≤ 1048576) :
    Calls Try.prog 27 #[v] w fun e w' => ∃ xa xc, e = .returned (.agg #[.int .i64 B, .slice xa zs.length zs.length, .slice xc ps.length ps.length]) ∧ DOwn w.heap.size w'.heap.size w' (.agg #[.int .i64 B, .slice xa zs.length zs.length, .slice xc ps.length ps.length]) B zs ps ∧ Below w.heap.size w w' := by
  obtain ⟨da, dc, ca, cc, rfl, k1, k2⟩ := h
  have hk := fun o1 o2 o3 => ((k1.alloc o1).alloc o2).alloc o3
  have hbel := fun o1 o2 o3 o4 => ((((Below.refl w.heap.size w).alloc (Nat.le_refl _) o1).alloc (by simp) o2).alloc (by simp; omega) o3).alloc (by simp; omega) o4
  have hB1 := fun x y z o1 o3 o4 => ((Box3.made (w.alloc o1) x y z 25 (w.heap.size + 1) (by simp)).alloc o3).alloc o4
  have hB2 := fun x y z o1 o2 o4 => (Box3.made ((w.alloc o1).alloc o2) x y z 25 (w.heap.size + 1 + 1) (by simp)).alloc o4
  have h4 := four_allocs' w zs k1.small
  go_enter Try.func27, Try.ntmps27
  go_wp2_with fail
  refine (toByteS_any _ zs _ (hk _ _ _) (by omega)).mono ?_
  rintro e w' ⟨rfl, rfl⟩
  go_wp2_with fail
  refine (toPendingS_any _ ps _ (k2.below (hbel _ _ _ _)) hn hn2).mono ?_
  rintro e w2 ⟨rfl, hP, hb2⟩
  have b1 := (hB1 _ _ _ _ _ _).below hb2
  have b2 := (hB2 _ _ _ _ _ _).below hb2
  have o1 := (h4 _ _ _).1.below hb2
  have hb3 : Below w.heap.size w w2 := (h4 _ _ _).2.trans (hb2.mono (h4 _ _ _).2.size)
  simp only [World.size_alloc] at hP
  obtain ⟨c10, c11, c12⟩ := b1.cells
  obtain ⟨c20, c21, c22⟩ := b2.cells
  have f1 := b1.free
  have f2 := b2.free
  have hs : w.heap.size + 4 ≤ w2.heap.size := by have := hb2.size; simpa using this
  clear hk hbel hB1 hB2 h4 hb2 b1 b2
  go_wp2
  have hend := toDevice_end (B := B) hs hb3 o1 hP
  exact bodyPost_ret (v := .agg #[.int .i64 B, .slice (some ⟨w.heap.size + 1 + 1 + 1, 0, none⟩) zs.length zs.length, .slice (some ⟨w.heap.size + 1 + 1 + 1 + 1, 0, none⟩) ps.length ps.length]) (by simp [results, Try.results27, go_sem, c10, c11, c12]) rfl ⟨_, _, rfl, (hend _ _ _ _).1, (hend _ _ _ _).2⟩
end Go.Proofs.Ytbadedhliplkeaa
