import Derived.Test.YtpjdhfbeofdplaaGreatDoorRaw
import Derived.Test.YtpjdhfbeofdplaaGreatDoorIn
import Derived.Test.YtpjdhfbeofdplaaGreatDoorCt1
import Derived.Deep.RegionWith
import Derived.Deep.MidRow
import Derived.Deep.RegionHeld3
import Derived.Lib.SliceRun
import Derived.Laws.CopyOwn
import Derived.Deep.RegionLaw
import Derived.Maps.AppendAt
namespace Go.Proofs.YtpjdhfbeofdplaaGreatDoor
open Go.RowKit
set_option linter.unusedVariables false


/-- the []Pending value v reads in w as ps -/
def PRead (w : World) (v : Value) (ps : List (Int × List Int)) : Prop :=
  ∃ a cap, v = .slice a ps.length cap ∧ (0 < ps.length → ∃ b off, a = some ⟨b, off, none⟩ ∧ ∀ i, i < ps.length → ∃ da dc, w.cell? ⟨b, off + i * 2, none⟩ = some (.int .i64 (ps.getD i (0, [])).1) ∧ w.cell? ⟨b, off + i * 2 + 1, none⟩ = some (.slice da (ps.getD i (0, [])).2.length dc) ∧ Bts w (.slice da (ps.getD i (0, [])).2.length dc) (ps.getD i (0, [])).2)

theorem PRead.below {w w' : World} {v : Value} {ps : List (Int × List Int)} (h : PRead w v ps) (k : Below w.heap.size w w') : PRead w' v ps := by
  obtain ⟨a, cap, hv, hc⟩ := h
  refine ⟨a, cap, hv, fun hp => ?_⟩
  obtain ⟨b, off, ha, hcell⟩ := hc hp
  refine ⟨b, off, ha, fun i hi => ?_⟩
  obtain ⟨da, dc, g1, g2, g3⟩ := hcell i hi
  have hb := World.block_lt_of_cell? _ _ g1
  exact ⟨da, dc, (k.cell (p := ⟨b, off + i * 2, none⟩) hb).trans g1, (k.cell (p := ⟨b, off + i * 2 + 1, none⟩) hb).trans g2, g3.below k⟩

theorem PRead.empty (w : World) (a : Option Addr) (cap : Nat) : PRead w (.slice a 0 cap) [] := ⟨a, cap, rfl, fun h => by simp at h⟩


/-- element i of the []Pending at block b, offset off: its cells, which may be written; its bytes in a block of their own -/
def PEl (w : World) (b off g i : Nat) (p : Int × List Int) : Prop :=
  ∃ da dc, w.cell? ⟨b, off + i * 2, none⟩ = some (.int .i64 p.1) ∧ w.cell? ⟨b, off + i * 2 + 1, none⟩ = some (.slice da p.2.length dc) ∧ w.frozen? ⟨b, off + i * 2, none⟩ = false ∧ Own8 g (g + 1) w (.slice da p.2.length dc) p.2

/-- the []Pending value v reads in w as ps; spine and bytes lie in blocks from lo up to hi, each in its own -/
def POwn (lo hi : Nat) (w : World) (v : Value) (ps : List (Int × List Int)) : Prop :=
  ∃ a cap, v = .slice a ps.length cap ∧ (0 < ps.length → ∃ b off, a = some ⟨b, off, none⟩ ∧ lo ≤ b ∧ b < hi ∧ b < w.heap.size ∧ ∃ g : Nat → Nat, (∀ i, i < ps.length → lo ≤ g i ∧ g i < hi ∧ g i ≠ b ∧ g i < w.heap.size ∧ PEl w b off (g i) i (ps.getD i (0, []))) ∧ (∀ i j, i < ps.length → j < ps.length → g i = g j → i = j))

theorem PEl.kept {w w' : World} {b off g i : Nat} {p : Int × List Int} (h : PEl w b off g i p) (hs : w.heap.size ≤ w'.heap.size) (h1 : w'.heap[b]? = w.heap[b]?) (h2 : g < w.heap.size → w'.heap[g]? = w.heap[g]?) : PEl w' b off g i p := by
  obtain ⟨da, dc, e1, e2, e3, e4⟩ := h
  refine ⟨da, dc, ?_, ?_, ?_, e4.kept hs fun k k1 k2 k3 => ?_⟩
  · rw [World.cell?_of_block (w := w) (w' := w') (a := ⟨b, off + i * 2, none⟩) h1]; exact e1
  · rw [World.cell?_of_block (w := w) (w' := w') (a := ⟨b, off + i * 2 + 1, none⟩) h1]; exact e2
  · rw [World.frozen?_of_block (w := w) (w' := w') (a := ⟨b, off + i * 2, none⟩) h1]; exact e3
  · obtain rfl : k = g := by omega
    exact h2 k3

theorem POwn.kept {lo hi : Nat} {w w' : World} {v : Value} {ps : List (Int × List Int)} (h : POwn lo hi w v ps) (hs : w.heap.size ≤ w'.heap.size) (k : ∀ b, lo ≤ b → b < hi → b < w.heap.size → w'.heap[b]? = w.heap[b]?) : POwn lo hi w' v ps := by
  obtain ⟨a, cap, hv, hc⟩ := h
  refine ⟨a, cap, hv, fun hp => ?_⟩
  obtain ⟨b, off, ha, h1, h2, h3, g, hg, hj⟩ := hc hp
  refine ⟨b, off, ha, h1, h2, by omega, g, fun i hi => ?_, hj⟩
  obtain ⟨g1, g2, g3, g4, g5⟩ := hg i hi
  exact ⟨g1, g2, g3, by omega, g5.kept hs (k b h1 h2 h3) (fun _ => k _ g1 g2 g4)⟩

theorem POwn.upd {lo hi lo' hi' : Nat} {w w' : World} {v : Value} {ps : List (Int × List Int)} (h : POwn lo hi w v ps) (k : Upd lo' hi' w w') (hd : hi ≤ lo' ∨ hi' ≤ lo) : POwn lo hi w' v ps :=
  h.kept k.size fun b h1 h2 h3 => k.block b h3 (by omega)

theorem POwn.below {lo hi : Nat} {w w' : World} {v : Value} {ps : List (Int × List Int)} (h : POwn lo hi w v ps) (k : Below w.heap.size w w') : POwn lo hi w' v ps :=
  h.kept k.size fun b _ _ h3 => k.block b h3

theorem POwn.wider {lo hi lo' hi' : Nat} {w : World} {v : Value} {ps : List (Int × List Int)} (h : POwn lo hi w v ps) (e1 : lo' ≤ lo) (e2 : hi ≤ hi') : POwn lo' hi' w v ps := by
  obtain ⟨a, cap, hv, hc⟩ := h
  refine ⟨a, cap, hv, fun hp => ?_⟩
  obtain ⟨b, off, ha, h1, h2, h3, g, hg, hj⟩ := hc hp
  refine ⟨b, off, ha, by omega, by omega, h3, g, fun i hi => ?_, hj⟩
  obtain ⟨g1, g2, g3, g4, g5⟩ := hg i hi
  exact ⟨by omega, by omega, g3, g4, g5⟩

theorem POwn.empty (lo hi : Nat) (w : World) (a : Option Addr) (cap : Nat) : POwn lo hi w (.slice a 0 cap) [] := ⟨a, cap, rfl, fun h => by simp at h⟩

/-- what a mark from k on leaves -/
def markP : Int → List (Int × List Int) → List (Int × List Int)
  | _, [] => []
  | k, p :: r => (k, marks (k + 1) p.2.length) :: markP (k + 1 + p.2.length) r

/-- how many places a mark takes -/
def sumP : List (Int × List Int) → Int
  | [] => 0
  | p :: r => 1 + p.2.length + sumP r

theorem markP_get (k : Int) (ps : List (Int × List Int)) (i : Nat) (h : i < ps.length) : (markP k ps).getD i (0, []) = (k + sumP (ps.take i), marks (k + sumP (ps.take i) + 1) (ps.getD i (0, [])).2.length) := by
  induction ps generalizing i k with
  | nil => simp at h
  | cons p r ih =>
    match i with
    | 0 => simp [markP, sumP]
    | i + 1 =>
      have := ih (k + 1 + p.2.length) i (by simpa using h)
      simp only [markP, List.getD_cons_succ, List.take_succ_cons, sumP] at this ⊢
      rw [this, show k + 1 + (p.2.length : Int) + sumP (r.take i) = k + (1 + p.2.length + sumP (r.take i)) by omega]

/-- the first j elements marked -/
def PMid (wr : World) (b off : Nat) (g : Nat → Nat) (ps : List (Int × List Int)) (k : Int) (j : Nat) : Prop :=
  ∀ i, i < ps.length → PEl wr b off (g i) i (if i < j then (markP k ps).getD i (0, []) else ps.getD i (0, []))

theorem PMid.step {wr w1 : World} {b off : Nat} {g : Nat → Nat} {ps : List (Int × List Int)} {k : Int} {j : Nat} (h : PMid wr b off g ps k j) (hj : j < ps.length)
    (hg : ∀ i, i < ps.length → g i ≠ b ∧ g i < wr.heap.size) (hb : b < wr.heap.size) (hinj : ∀ i j, i < ps.length → j < ps.length → g i = g j → i = j) {da : Option Addr} {dc : Nat}
    (hd : wr.cell? ⟨b, off + j * 2 + 1, none⟩ = some (.slice da (ps.getD j (0, [])).2.length dc))
    (hu : Upd (g j) (g j + 1) (wr.setCell ⟨b, off + j * 2, none⟩ (.int .i64 (k + sumP (ps.take j)))) w1)
    (ho : Own8 (g j) (g j + 1) w1 (.slice da (ps.getD j (0, [])).2.length dc) (marks (k + sumP (ps.take j) + 1) (ps.getD j (0, [])).2.length)) : PMid w1 b off g ps k (j + 1) := by
  intro i hi
  have hsz : wr.heap.size ≤ w1.heap.size := by have := hu.size; simpa using this
  have hbb : w1.heap[b]? = (wr.setCell ⟨b, off + j * 2, none⟩ (.int .i64 (k + sumP (ps.take j)))).heap[b]? := hu.block b (by simpa using hb) (by have := (hg j hj).1; omega)
  by_cases hij : i = j
  · subst hij
    have hold := h i hi
    rw [if_neg (Nat.lt_irrefl _)] at hold
    obtain ⟨_, _, e1, _, e3, _⟩ := hold
    rw [if_pos (Nat.lt_succ_self _), markP_get k ps i hi]
    refine ⟨da, dc, ?_, ?_, ?_, by simpa [marks_length] using ho⟩
    · rw [World.cell?_of_block (a := ⟨b, off + i * 2, none⟩) hbb, World.cell?_setCell_same _ _ _ e1]
    · rw [World.cell?_of_block (a := ⟨b, off + i * 2 + 1, none⟩) hbb, World.cell?_setCell_other _ _ _ _ (by simp), hd, marks_length]
    · rw [World.frozen?_of_block (a := ⟨b, off + i * 2, none⟩) hbb]; simpa using e3
  · have hold := h i hi
    rw [show (if i < j + 1 then (markP k ps).getD i (0, []) else ps.getD i (0, [])) = (if i < j then (markP k ps).getD i (0, []) else ps.getD i (0, [])) from by
      by_cases hlt : i < j
      · rw [if_pos hlt, if_pos (by omega)]
      · rw [if_neg hlt, if_neg (by omega)]]
    obtain ⟨da', dc', e1, e2, e3, e4⟩ := hold
    have hne : g i ≠ g j := fun e => hij (hinj i j hi hj e)
    refine ⟨da', dc', ?_, ?_, ?_, e4.kept hsz fun q q1 q2 q3 => ?_⟩
    · rw [World.cell?_of_block (a := ⟨b, off + i * 2, none⟩) hbb, World.cell?_setCell_other _ _ _ _ (by intro hh; simp only [Addr.mk.injEq] at hh; omega), e1]
    · rw [World.cell?_of_block (a := ⟨b, off + i * 2 + 1, none⟩) hbb, World.cell?_setCell_other _ _ _ _ (by intro hh; simp only [Addr.mk.injEq] at hh; omega), e2]
    · rw [World.frozen?_of_block (a := ⟨b, off + i * 2, none⟩) hbb]; simpa using e3
    · obtain rfl : q = g i := by omega
      rw [hu.block (g i) (by simpa using q3) (by omega)]
      exact Below.heap_setCell _ _ _ _ (by have := (hg i hi).1; simpa using this)


/-- the device value v reads in w as B, zs, ps -/
def DRead (w : World) (v : Value) (B : Int) (zs : List Int) (ps : List (Int × List Int)) : Prop :=
  ∃ da dc ca cc, v = .agg #[.int .i64 B, .slice da zs.length dc, .slice ca ps.length cc] ∧ Bts w (.slice da zs.length dc) zs ∧ PRead w (.slice ca ps.length cc) ps

/-- and its memory lies in blocks from lo up to hi, disk and cache apart -/
def DOwn (lo hi : Nat) (w : World) (v : Value) (B : Int) (zs : List Int) (ps : List (Int × List Int)) : Prop :=
  ∃ da dc ca cc l1 h1 l2 h2, v = .agg #[.int .i64 B, .slice da zs.length dc, .slice ca ps.length cc] ∧ lo ≤ l1 ∧ h1 ≤ hi ∧ lo ≤ l2 ∧ h2 ≤ hi ∧ (h1 ≤ l2 ∨ h2 ≤ l1) ∧ Own8 l1 h1 w (.slice da zs.length dc) zs ∧ POwn l2 h2 w (.slice ca ps.length cc) ps

theorem DRead.below {w w' : World} {v : Value} {B : Int} {zs : List Int} {ps : List (Int × List Int)} (h : DRead w v B zs ps) (k : Below w.heap.size w w') : DRead w' v B zs ps := by
  obtain ⟨da, dc, ca, cc, hv, h1, h2⟩ := h
  exact ⟨da, dc, ca, cc, hv, h1.below k, h2.below k⟩

theorem DOwn.below {lo hi : Nat} {w w' : World} {v : Value} {B : Int} {zs : List Int} {ps : List (Int × List Int)} (h : DOwn lo hi w v B zs ps) (k : Below w.heap.size w w') : DOwn lo hi w' v B zs ps := by
  obtain ⟨da, dc, ca, cc, l1, h1, l2, h2, hv, q1, q2, q3, q4, q5, k1, k2⟩ := h
  exact ⟨da, dc, ca, cc, l1, h1, l2, h2, hv, q1, q2, q3, q4, q5, k1.below k, k2.below k⟩

theorem DOwn.upd {lo hi lo' hi' : Nat} {w w' : World} {v : Value} {B : Int} {zs : List Int} {ps : List (Int × List Int)} (h : DOwn lo hi w v B zs ps) (k : Upd lo' hi' w w') (hd : hi ≤ lo' ∨ hi' ≤ lo) : DOwn lo hi w' v B zs ps := by
  obtain ⟨da, dc, ca, cc, l1, h1, l2, h2, hv, q1, q2, q3, q4, q5, k1, k2⟩ := h
  exact ⟨da, dc, ca, cc, l1, h1, l2, h2, hv, q1, q2, q3, q4, q5, k1.upd k (by omega), k2.upd k (by omega)⟩

theorem DOwn.shape {lo hi : Nat} {w : World} {v : Value} {B : Int} {zs : List Int} {ps : List (Int × List Int)} (h : DOwn lo hi w v B zs ps) : ∃ da dc ca cc, v = .agg #[.int .i64 B, .slice da zs.length dc, .slice ca ps.length cc] := by
  obtain ⟨da, dc, ca, cc, _, _, _, _, hv, _⟩ := h
  exact ⟨da, dc, ca, cc, hv⟩

theorem infoPend : (Tryz.prog.info? 63).map (fun i => (i.zero, i.size, i.bytes)) = some (some (.agg #[.int .i64 0, .slice none 0 0]), 2, 32) := by kernel_rfl

/-- the first k elements are laid in the new spine at block g0 -/
structure PTo (w wr : World) (g0 : Nat) (ps : List (Int × List Int)) (g : Nat → Nat) (k : Nat) : Prop where
  below : Below w.heap.size w wr
  base : w.heap.size ≤ g0
  spine : ∃ cur, wr.heap[g0]? = some (.cells cur 63 (0, 0)) ∧ cur.size = ps.length * 2
  els : ∀ i, i < k → g0 < g i ∧ g i < wr.heap.size ∧ PEl wr g0 0 (g i) i (ps.getD i (0, []))
  inj : ∀ i j, i < k → j < k → g i = g j → i = j

theorem PTo.lt {w wr : World} {g0 : Nat} {ps : List (Int × List Int)} {g : Nat → Nat} {k : Nat} (h : PTo w wr g0 ps g k) : g0 < wr.heap.size := by
  obtain ⟨cur, hc, _⟩ := h.spine
  by_cases hh : g0 < wr.heap.size
  · exact hh
  · simp [show wr.heap.size ≤ g0 by omega] at hc

theorem PTo.cell {w wr : World} {g0 : Nat} {ps : List (Int × List Int)} {g : Nat → Nat} {k : Nat} (h : PTo w wr g0 ps g k) {w1 : World} (hb : Below wr.heap.size wr w1) (j : Nat) (hj : j < ps.length * 2) : (∃ x, w1.cell? ⟨g0, j, none⟩ = some x) ∧ w1.frozen? ⟨g0, j, none⟩ = false := by
  have hlt := h.lt
  obtain ⟨cur, hc, hs⟩ := h.spine
  rw [← hb.block g0 hlt] at hc
  constructor
  · rw [cell_of_row w1 g0 j cur _ (0, 0) hc]
    exact ⟨cur[j]'(by omega), by simp [hs, hj]⟩
  · exact frozen_of_row w1 g0 j cur _ hc

theorem PTo.step {w wr w1 : World} {g0 : Nat} {ps : List (Int × List Int)} {g : Nat → Nat} {k : Nat} (h : PTo w wr g0 ps g k) (hk : k < ps.length) (hb : Below wr.heap.size wr w1) {g1 dc : Nat} (h1 : wr.heap.size ≤ g1) (h2 : g1 < w1.heap.size)
    (ho : Own8 g1 (g1 + 1) w1 (.slice (some ⟨g1, 0, none⟩) (ps.getD k (0, [])).2.length dc) (ps.getD k (0, [])).2) :
    PTo w ((w1.setCell ⟨g0, k * 2, none⟩ (.int .i64 (ps.getD k (0, [])).1)).setCell ⟨g0, k * 2 + 1, none⟩ (.slice (some ⟨g1, 0, none⟩) (ps.getD k (0, [])).2.length dc)) g0 ps (fun i => if i = k then g1 else g i) (k + 1) := by
  have hlt := h.lt
  have hbase := h.base
  obtain ⟨⟨x0, c0⟩, f0⟩ := h.cell hb (k * 2) (by omega)
  obtain ⟨⟨x1, c1⟩, f1⟩ := h.cell hb (k * 2 + 1) (by omega)
  have hwsz := h.below.size
  have hbsz := hb.size
  have hother : ∀ q, q ≠ g0 → ((w1.setCell ⟨g0, k * 2, none⟩ (.int .i64 (ps.getD k (0, [])).1)).setCell ⟨g0, k * 2 + 1, none⟩ (.slice (some ⟨g1, 0, none⟩) (ps.getD k (0, [])).2.length dc)).heap[q]? = w1.heap[q]? := fun q hq => by
    rw [Below.heap_setCell _ _ _ _ (by simpa using hq), Below.heap_setCell _ _ _ _ (by simpa using hq)]
  refine ⟨?_, hbase, ?_, fun i hi => ?_, fun i j hi hj he => ?_⟩
  · exact ((h.below.trans (hb.mono hwsz)).setCell (p := ⟨g0, k * 2, none⟩) hbase _).setCell (p := ⟨g0, k * 2 + 1, none⟩) hbase _
  · obtain ⟨cur, hc, hs⟩ := h.spine
    rw [← hb.block g0 hlt] at hc
    have e1 := heap_setCell_same w1 g0 (k * 2) cur _ (.int .i64 (ps.getD k (0, [])).1) hc
    exact ⟨_, heap_setCell_same _ g0 (k * 2 + 1) _ _ _ e1, by simpa using hs⟩
  · by_cases hik : i = k
    · subst hik
      rw [if_pos rfl]
      refine ⟨by omega, by simpa using h2, some ⟨g1, 0, none⟩, dc, ?_, ?_, ?_, ?_⟩
      · rw [Nat.zero_add, World.cell?_setCell_other _ _ _ _ (by intro hh; simp only [Addr.mk.injEq] at hh; omega)]
        exact World.cell?_setCell_same _ _ _ c0
      · rw [Nat.zero_add]
        exact World.cell?_setCell_same _ _ _ ((World.cell?_setCell_other _ _ _ _ (by intro hh; simp only [Addr.mk.injEq] at hh; omega)).trans c1)
      · rw [Nat.zero_add]; simpa using f0
      · exact ho.kept (by simp) fun q q1 q2 q3 => hother q (by omega)
    · rw [if_neg hik]
      obtain ⟨e1, e2, da, dc0, k1, k2, k3, k4⟩ := h.els i (by omega)
      refine ⟨e1, by simp; omega, da, dc0, ?_, ?_, ?_, ?_⟩
      · rw [World.cell?_setCell_other _ _ _ _ (by intro hh; simp only [Addr.mk.injEq] at hh; omega), World.cell?_setCell_other _ _ _ _ (by intro hh; simp only [Addr.mk.injEq] at hh; omega), hb.cell (p := ⟨g0, 0 + i * 2, none⟩) hlt]; exact k1
      · rw [World.cell?_setCell_other _ _ _ _ (by intro hh; simp only [Addr.mk.injEq] at hh; omega), World.cell?_setCell_other _ _ _ _ (by intro hh; simp only [Addr.mk.injEq] at hh; omega), hb.cell (p := ⟨g0, 0 + i * 2 + 1, none⟩) hlt]; exact k2
      · simp only [World.frozen?_setCell]; rw [hb.frozen (p := ⟨g0, 0 + i * 2, none⟩) hlt]; exact k3
      · refine k4.kept (by simp; omega) fun q q1 q2 q3 => ?_
        rw [hother q (by omega)]
        exact hb.block q q3
  · by_cases hik : i = k
    · by_cases hjk : j = k
      · omega
      · rw [if_pos hik, if_neg hjk] at he
        have := (h.els j (by omega)).2.1
        omega
    · by_cases hjk : j = k
      · rw [if_neg hik, if_pos hjk] at he
        have := (h.els i (by omega)).2.1
        omega
      · rw [if_neg hik, if_neg hjk] at he
        exact h.inj i j (by omega) (by omega) he

theorem PTo.own {w wr : World} {g0 : Nat} {ps : List (Int × List Int)} {g : Nat → Nat} (h : PTo w wr g0 ps g ps.length) (cap : Nat) : POwn g0 wr.heap.size wr (.slice (some ⟨g0, 0, none⟩) ps.length cap) ps := by
  refine ⟨_, cap, rfl, fun _ => ⟨g0, 0, rfl, Nat.le_refl _, h.lt, h.lt, g, fun i hi => ?_, h.inj⟩⟩
  obtain ⟨e1, e2, e3⟩ := h.els i hi
  exact ⟨by omega, by omega, by omega, e2, e3⟩

theorem PTo.start (w : World) (ps : List (Int × List Int)) (cur : Array Value) (hs : cur.size = ps.length * 2) : PTo w (w.alloc (.cells cur 63)) w.heap.size ps (fun _ => 0) 0 :=
  ⟨(Below.refl _ _).alloc (Nat.le_refl _) _, Nat.le_refl _, ⟨cur, heap_alloc_new w _, hs⟩, fun _ hi => absurd hi (Nat.not_lt_zero _), fun _ _ hi => absurd hi (Nat.not_lt_zero _)⟩

theorem make_pend (n : Nat) (hb : n ≤ 1048576) (w : World) : ∃ cur, cur.size = n * 2 ∧ (Instr.makeSlice 33 (.int .i64 (n : Int)) (.int .i64 (n : Int))).run Tryz.prog w = .ok (.slice (some ⟨w.heap.size, 0, none⟩) n n) (w.alloc (.cells cur 63)) := by
  obtain ⟨i, hi, hzz⟩ := Option.map_eq_some_iff.1 infoPend
  simp only [Prod.mk.injEq] at hzz
  obtain ⟨hz, hs, hby⟩ := hzz
  have hr := run_make (P := Tryz.prog) w 33 63 i _ Tryz.underlying33 hi hz .i64 .i64 n n (by omega) (Int.le_refl _) (by rw [hby]; omega) (by omega)
  simp only [Int.toNat_natCast, hs] at hr
  exact ⟨_, size_madeCells _ _, hr⟩

/-- a block of three cells -/
def Box3 (w : World) (g : Nat) (x y z : Value) (t : TypeId) : Prop := w.heap[g]? = some (.cells #[x, y, z] t (0, 0))

theorem Box3.cells {w : World} {g : Nat} {x y z : Value} {t : TypeId} (h : Box3 w g x y z t) : w.cell? ⟨g, 0, none⟩ = some x ∧ w.cell? ⟨g, 1, none⟩ = some y ∧ w.cell? ⟨g, 2, none⟩ = some z := by
  unfold Box3 at h
  simp [World.cell?, h]

theorem Box3.free {w : World} {g : Nat} {x y z : Value} {t : TypeId} (h : Box3 w g x y z t) (j : Nat) : w.frozen? ⟨g, j, none⟩ = false := frozen_of_row w g j _ t h

theorem Box3.lt {w : World} {g : Nat} {x y z : Value} {t : TypeId} (h : Box3 w g x y z t) : g < w.heap.size := World.block_lt_of_cell? _ _ h.cells.1

theorem Box3.below {w w' : World} {g : Nat} {x y z : Value} {t : TypeId} (h : Box3 w g x y z t) (k : Below w.heap.size w w') : Box3 w' g x y z t := (k.block g h.lt).trans h

theorem Box3.upd {lo hi : Nat} {w w' : World} {g : Nat} {x y z : Value} {t : TypeId} (h : Box3 w g x y z t) (k : Upd lo hi w w') (hd : g < lo ∨ hi ≤ g) : Box3 w' g x y z t := (k.block g h.lt hd).trans h

theorem Box3.made (w : World) (x y z : Value) (t : TypeId) (g : Nat) (hg : g = w.heap.size) : Box3 (w.alloc (.cells #[x, y, z] t)) g x y z t := by
  subst hg; exact heap_alloc_new w _

theorem Box3.alloc {w : World} {g : Nat} {x y z : Value} {t : TypeId} (h : Box3 w g x y z t) (o : Obj) : Box3 (w.alloc o) g x y z t := h.below ((Below.refl _ _).alloc (Nat.le_refl _) o)


/-- an element of the cache is valid -/
def pOK (B : Int) (p : Int × List Int) : Bool := decide (0 ≤ p.1 ∧ p.1 < B ∧ p.2.length = 128)

/-- a device is valid -/
def dOK (B : Int) (zs : List Int) (ps : List (Int × List Int)) : Bool := decide (8 ≤ B ∧ B ≤ 512 ∧ (zs.length : Int) = B * 128 ∧ ps.length ≤ 2048 ∧ ∀ i, i < ps.length → pOK B (ps.getD i (0, [])) = true)

theorem dOK_true {B : Int} {zs : List Int} {ps : List (Int × List Int)} (h : 8 ≤ B ∧ B ≤ 512 ∧ (zs.length : Int) = B * 128 ∧ ps.length ≤ 2048 ∧ ∀ i, i < ps.length → pOK B (ps.getD i (0, [])) = true) : dOK B zs ps = true := decide_eq_true h

theorem dOK_false {B : Int} {zs : List Int} {ps : List (Int × List Int)} (h : ¬ (8 ≤ B ∧ B ≤ 512 ∧ (zs.length : Int) = B * 128 ∧ ps.length ≤ 2048 ∧ ∀ i, i < ps.length → pOK B (ps.getD i (0, [])) = true)) : dOK B zs ps = false := decide_eq_false h

theorem dOK_out {B : Int} {zs : List Int} {ps : List (Int × List Int)} (h : dOK B zs ps = true) : 8 ≤ B ∧ B ≤ 512 ∧ (zs.length : Int) = B * 128 ∧ ps.length ≤ 2048 ∧ ∀ i, i < ps.length → pOK B (ps.getD i (0, [])) = true := of_decide_eq_true h

theorem pOK_true {B q : Int} {zs : List Int} (h : 0 ≤ q ∧ q < B ∧ zs.length = 128) : pOK B (q, zs) = true := decide_eq_true h

theorem pOK_false {B q : Int} {zs : List Int} (h : ¬ (0 ≤ q ∧ q < B ∧ zs.length = 128)) : pOK B (q, zs) = false := decide_eq_false h

set_option maxHeartbeats 400000 in
theorem has_any (B q : Int) (x y : Value) (w : World) (h1 : 1 ≤ B) (h2 : B ≤ 512) :
    Calls Tryz.prog 25 #[.agg #[.int .i64 B, x, y], .int .i64 q] w fun e w' => e = .returned (.bool (inB q 0 (B - 1))) ∧ Below w.heap.size w w' := by
  have hb := (Below.refl w.heap.size w).alloc (Nat.le_refl _) (.cells #[.int .i64 B, x, y] 35)
  go_enter Tryz.func25, Tryz.ntmps25
  go_wp2_with fail
  refine (within_any _ _ _ _).mono ?_
  rintro e w' ⟨rfl, rfl⟩
  go_wp2
  go_ret
  exact ⟨rfl, hb⟩

set_option maxHeartbeats 1000000 in
theorem valid_any (B : Int) (v : Value) (zs : List Int) (ps : List (Int × List Int)) (w : World) (h : DRead w v B zs ps) (_hz : zs.length ≤ 1048576) (hn : ps.length ≤ 1048576) (hn2 : ∀ i, (ps.getD i (0, [])).2.length ≤ 1048576) :
    Calls Tryz.prog 14 #[v] w fun e w' => e = .returned (.bool (dOK B zs ps)) ∧ Below w.heap.size w w' := by
  obtain ⟨da, dc, ca, cc, rfl, k1, k2⟩ := h
  have hb0 := (Below.refl w.heap.size w).alloc (Nat.le_refl _) (.cells #[.int .i64 B, .slice da zs.length dc, .slice ca ps.length cc] 35)
  by_cases hB : 8 ≤ B ∧ B ≤ 512
  · have hib := inB_true hB
    by_cases hzl : (zs.length : Int) = B * 128
    · have hzl' : ((zs.length : Int) != B * 128) = false := by simpa using hzl
      have HZ : Hid ((zs.length : Int) = B * 128) := hzl
      clear hzl
      by_cases hm : ps.length ≤ 2048
      · have hc := k2.below hb0
        obtain ⟨_, _, he, hc⟩ := hc
        simp only [Value.slice.injEq, true_and] at he
        obtain ⟨rfl, rfl⟩ := he
        have hm' : (ps.length : Int) ≤ 2048 := by omega
        have hBx := Box3.made w (.int .i64 B) (.slice da zs.length dc) (.slice ca ps.length cc) 35 _ rfl
        go_enter Tryz.func14, Tryz.ntmps14
        go_wp2_with fail
        refine (within_any _ _ _ _).mono ?_
        rintro e w' ⟨rfl, rfl⟩
        go_wp2
        go_loopw [4, 25] (fun _ i wr => ∃ k : Nat, k ≤ ps.length ∧ i = .int .i64 k ∧ Below (w.heap.size + 1) (w.alloc (.cells #[.int .i64 B, .slice da zs.length dc, .slice ca ps.length cc] 35)) wr ∧ ∀ j, j < k → pOK B (ps.getD j (0, [])) = true) (fun _ i _ => ps.length - (intOf i).toNat)
        case atStart => exact ⟨0, Nat.zero_le _, rfl, Below.refl _ _, fun j hj => absurd hj (Nat.not_lt_zero _)⟩
        case round =>
          obtain ⟨k, hk, rfl, hb1, hall⟩ := hrel
          have hsz : w.heap.size + 1 ≤ wr.heap.size := by have := hb1.size; simpa using this
          have hb2 : Below w.heap.size w wr := hb0.trans (hb1.mono (by omega))
          have hlt0 : w.heap.size < wr.heap.size := by omega
          by_cases hlt : k < ps.length
          · obtain ⟨b, off, rfl, hcell⟩ := hc (by omega)
            obtain ⟨ea, ec, g1, g2, -⟩ := hcell k hlt
            have hbw := World.block_lt_of_cell? _ _ g1
            have hbw' : b < w.heap.size + 1 := by simpa using hbw
            rw [← hb1.cell (p := ⟨b, off + k * 2, none⟩) hbw'] at g1
            rw [← hb1.cell (p := ⟨b, off + k * 2 + 1, none⟩) hbw'] at g2
            obtain ⟨c0, c1, c2⟩ := hBx.cells
            rw [← hb1.cell (p := ⟨w.heap.size, 0, none⟩) (Nat.lt_succ_self _)] at c0
            rw [← hb1.cell (p := ⟨w.heap.size, 1, none⟩) (Nat.lt_succ_self _)] at c1
            rw [← hb1.cell (p := ⟨w.heap.size, 2, none⟩) (Nat.lt_succ_self _)] at c2
            have hn3 := hn2 k
            have HN : Hid (∀ h : pOK B (ps.getD k (0, [])) = false, dOK B zs ps = false) := fun h => dOK_false (fun hh => by rw [hh.2.2.2.2 k hlt] at h; cases h)
            have HY : Hid (∀ h : pOK B (ps.getD k (0, [])) = true, ∀ j, j < k + 1 → pOK B (ps.getD j (0, [])) = true) := fun h j hj => by
              by_cases hjk : j = k
              · rw [hjk]; exact h
              · exact hall j (by omega)
            clear hcell hall
            generalize ps.getD k (0, []) = p at g1 g2 hn3 HN HY
            obtain ⟨q, ds⟩ := p
            simp only at g1 g2 hn3
            have hbA := (belowA wr (.cells #[.int .i64 q, .slice ea ds.length ec] 63))
            by_cases hq : 0 ≤ q ∧ q ≤ B - 1
            · have hiq := inB_true hq
              by_cases hd : ds.length = 128
              · have hd' : ((ds.length : Int) != 128) = false := by simp; omega
                have hY := HY.out (pOK_true ⟨hq.1, by omega, hd⟩)
                clear HN HY hd
                go_wp2_with fail
                refine (has_any _ _ _ _ _ (by omega) hB.2).mono ?_
                rintro e w2 ⟨rfl, hb3⟩
                have hb4 := hb1.trans ((hbA.mono hsz).trans (hb3.mono (by simp; omega)))
                have c3 : w2.cell? ⟨wr.heap.size, 1, none⟩ = some (.slice ea ds.length ec) := (hb3.cell (p := ⟨wr.heap.size, 1, none⟩) (by simp)).trans (World.cell?_alloc_at _ _ _ _ rfl)
                clear hb3 hbA hb1 g1 g2 c0 c1 c2
                go_wp2
                go_roundw
                case rel => exact ⟨k + 1, by omega, by go_num, hb4, hY⟩
                case measure => simp [intOf]; omega
              · have hd' : ((ds.length : Int) != 128) = true := by simp; omega
                have hN := HN.out (pOK_false (by omega))
                clear HN HY hd
                go_wp2_with fail
                refine (has_any _ _ _ _ _ (by omega) hB.2).mono ?_
                rintro e w2 ⟨rfl, hb3⟩
                have hb4 := hb2.trans ((hbA.mono hb2.size).trans (hb3.mono (by simp; omega)))
                have c3 : w2.cell? ⟨wr.heap.size, 1, none⟩ = some (.slice ea ds.length ec) := (hb3.cell (p := ⟨wr.heap.size, 1, none⟩) (by simp)).trans (World.cell?_alloc_at _ _ _ _ rfl)
                clear hb3 hbA hb1 g1 g2 c0 c1 c2
                go_wp2
                go_ret
                exact ⟨by rw [hN]; rfl, hb4⟩
            · have hiq := inB_false hq
              have hN := HN.out (pOK_false (by omega))
              clear HN HY
              go_wp2_with fail
              refine (has_any _ _ _ _ _ (by omega) hB.2).mono ?_
              rintro e w2 ⟨rfl, hb3⟩
              have hb4 := hb2.trans ((hbA.mono hb2.size).trans (hb3.mono (by simp; omega)))
              clear hb3 hbA hb1 g1 g2 c0 c1 c2
              go_wp2
              go_ret
              exact ⟨by rw [hN]; rfl, hb4⟩
          · have hT : dOK B zs ps = true := dOK_true ⟨hB.1, hB.2, HZ.out, hm, fun i hi => hall i (by omega)⟩
            clear hc
            go_wp2
            go_ret
            exact ⟨by rw [hT]; rfl, hb2⟩
      · have hf : dOK B zs ps = false := dOK_false (by omega)
        have hm' : (2048 : Int) < (ps.length : Int) := by omega
        go_enter Tryz.func14, Tryz.ntmps14
        go_wp2_with fail
        refine (within_any _ _ _ _).mono ?_
        rintro e w' ⟨rfl, rfl⟩
        go_wp2
        go_ret
        exact ⟨by rw [hf]; rfl, hb0⟩
    · have hf : dOK B zs ps = false := dOK_false (by omega)
      have hzl' : ((zs.length : Int) != B * 128) = true := by simpa using hzl
      go_enter Tryz.func14, Tryz.ntmps14
      go_wp2_with fail
      refine (within_any _ _ _ _).mono ?_
      rintro e w' ⟨rfl, rfl⟩
      go_wp2
      go_ret
      exact ⟨by rw [hf]; rfl, hb0⟩
  · have hf : dOK B zs ps = false := dOK_false (by omega)
    have hib := inB_false hB
    go_enter Tryz.func14, Tryz.ntmps14
    go_wp2_with fail
    refine (within_any _ _ _ _).mono ?_
    rintro e w' ⟨rfl, rfl⟩
    go_wp2
    go_ret
    exact ⟨by rw [hf]; rfl, hb0⟩

/-- the block that is being read lies at g -/
structure Seen (w wr : World) (g : Nat) (ds : List Int) : Prop where
  rng : Rng8 wr g 0 ds
  there : wr.there g 0 128
  below : Below w.heap.size w wr
  base : w.heap.size ≤ g

theorem Seen.lt {w wr : World} {g : Nat} {ds : List Int} (h : Seen w wr g ds) : g < wr.heap.size := World.block_lt_of_cell? _ _ (h.rng.2 0 (by omega))

theorem Seen.alloc {w wr : World} {g : Nat} {ds : List Int} (h : Seen w wr g ds) (o : Obj) : Seen w (wr.alloc o) g ds :=
  have hb := belowA wr o
  ⟨h.rng.block (hb.block g h.lt), there_block h.there (hb.block g h.lt), h.below.trans (hb.mono h.below.size), h.base⟩

theorem Seen.start {w w2 : World} (hb : Below w.heap.size w w2) (ds : List Int) (hl : ds.length = 128) (o : Obj) : Seen w ((w2.alloc o).alloc (.cells (u8s ds) 121)) (w2.heap.size + 1) ds := by
  have e : (w2.alloc o).heap.size = w2.heap.size + 1 := by simp
  refine ⟨rng_new _ ds hl _ _ e.symm, ?_, (hb.trans ((belowA w2 o).mono hb.size)).trans ((belowA _ _).mono (by have := hb.size; omega)), by have := hb.size; omega⟩
  intro j hj
  rw [Nat.zero_add, World.cell?_alloc_at _ _ _ _ e.symm, World.frozen?_alloc_at _ _ _ _ e.symm]
  simp [u8s, hl, hj]


theorem Row8.own1 {base : Nat} {w : World} {v : Value} {zs : List Int} (h : Row8 base w v zs) (hz : ∀ i, 0 ≤ zs.getD i 0 ∧ zs.getD i 0 < 256) (hb : base < w.heap.size) : ∃ g, base ≤ g ∧ g < w.heap.size ∧ Own8 g (g + 1) w v zs := by
  rcases h.2 with ⟨hv, hn⟩ | ⟨g, cap, cur, hv, hbg, hg, hnc, hcm, hcs, htake⟩
  · refine ⟨base, Nat.le_refl _, hb, hz, Option.none, 0, by rw [hv, hn], fun hp => by omega⟩
  · have hlt : g < w.heap.size := by
      by_cases hh : g < w.heap.size
      · exact hh
      · simp [show w.heap.size ≤ g by omega] at hg
    have hO := h.own hz
    obtain ⟨a', cap', hv', hc⟩ := hO.shape
    refine ⟨g, hbg, hlt, hz, a', cap', hv', fun hp => ?_⟩
    obtain ⟨b, off, ha, h1, h2, h3, h4⟩ := hc hp
    rw [hv] at hv'
    simp only [Value.slice.injEq] at hv'
    rw [← hv'.1] at ha
    simp only [Option.some.injEq, Addr.mk.injEq, and_true] at ha
    obtain ⟨rfl, rfl⟩ := ha
    exact ⟨g, 0, hv'.1.symm, Nat.le_refl _, Nat.lt_succ_self _, h3, h4⟩

set_option maxHeartbeats 1000000 in
theorem l1Copy_any (v : Value) (zs : List Int) (w : World) (hv : Bts w v zs) (hn : zs.length ≤ 1048576) :
    Calls Tryz.prog 23 #[v] w fun e w' => ∃ a cap g, e = .returned (.slice a zs.length cap) ∧ w.heap.size ≤ g ∧ g < w'.heap.size ∧ Own8 g (g + 1) w' (.slice a zs.length cap) zs ∧ Below w.heap.size w w' := by
  obtain ⟨a, cap, rfl, hc⟩ := hv.shape
  have hsm := hv.small
  go_enter Tryz.func23, Tryz.ntmps23
  go_wp2
  go_loopw [3, 4] (fun u i wr => ∃ k : Nat, k ≤ zs.length ∧ i = .int .i64 k ∧ Row8 w.heap.size wr u (zs.take k) ∧ Below w.heap.size w wr ∧ w.heap.size < wr.heap.size) (fun _ i _ => zs.length - (intOf i).toNat)
  case atStart => exact ⟨0, Nat.zero_le _, rfl, Row8.lit _ _ (Nat.le_refl _) _ rfl, belowA _ _, by simp⟩
  case round =>
    obtain ⟨k, hk, rfl, hown, hbel, hsz⟩ := hrel
    obtain ⟨ua, uc, hua⟩ := hown.shape
    subst hua
    have htl : (zs.take k).length = k := by simp; omega
    have hfl : (zs.take k).length < 140737488355328 := by omega
    have hsz' : w.heap.size ≤ wr.heap.size := by omega
    by_cases hlt : k < zs.length
    · obtain ⟨b, off, rfl, hcell⟩ := hc (by omega)
      have g1 : wr.cell? ⟨b, off + k, none⟩ = some (.int .u8 (zs.getD k 0)) := (hbel.cell (p := ⟨b, off + k, none⟩) (World.block_lt_of_cell? _ _ (hcell k hlt))).trans (hcell k hlt)
      have HG : Hid (zs.take (k + 1) = zs.take k ++ [zs[k]]) := List.take_succ_eq_append_getElem hlt
      clear hc hcell htl
      go_wp2_with (first | (at_builtin; refine wpList_append8 rfl _ _ rfl _ hown rfl rfl hfl hsz' ?_; intro v' w1 hown1 hbel1 hsz1 hgr1) | go_in)
      rw [← HG.out] at hown1
      go_roundw
      case rel => exact ⟨k + 1, by omega, by go_num, hown1, hbel.trans hbel1, by omega⟩
      case measure => simp [intOf]; omega
    · have HT : Hid (zs.take k = zs) := List.take_of_length_le (by omega)
      rw [HT.out] at hown
      have hO := hown.own1 hsm hsz
      rw [HT.out]
      clear hc hown htl
      go_wp2
      go_ret
      obtain ⟨g, e1, e2, e3⟩ := hO
      exact ⟨ua, uc, g, rfl, e1, e2, e3, hbel⟩
end Go.Proofs.YtpjdhfbeofdplaaGreatDoor
