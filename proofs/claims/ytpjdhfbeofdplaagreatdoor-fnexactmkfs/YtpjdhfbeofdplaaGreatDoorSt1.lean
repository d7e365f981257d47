import Derived.Test.YtpjdhfbeofdplaaGreatDoorMs8
import Derived.Deep.RegionWith
namespace Go.Proofs.YtpjdhfbeofdplaaGreatDoor
open Go.RowKit

/-- the []Step value v reads in w as ss: kind, block, bytes -/
def SRead (w : World) (v : Value) (ss : List (Int × Int × List Int)) : Prop :=
  ∃ a cap, v = .slice a ss.length cap ∧ (0 < ss.length → ∃ b off, a = some ⟨b, off, none⟩ ∧ ∀ i, i < ss.length → ∃ da dc, w.cell? ⟨b, off + i * 3, none⟩ = some (.int .i64 (ss.getD i (0, 0, [])).1) ∧ w.cell? ⟨b, off + i * 3 + 1, none⟩ = some (.int .i64 (ss.getD i (0, 0, [])).2.1) ∧ w.cell? ⟨b, off + i * 3 + 2, none⟩ = some (.slice da (ss.getD i (0, 0, [])).2.2.length dc) ∧ Bts w (.slice da (ss.getD i (0, 0, [])).2.2.length dc) (ss.getD i (0, 0, [])).2.2)

theorem SRead.below {w w' : World} {v : Value} {ss : List (Int × Int × List Int)} (h : SRead w v ss) (k : Below w.heap.size w w') : SRead w' v ss := by
  obtain ⟨a, cap, hv, hc⟩ := h
  refine ⟨a, cap, hv, fun hp => ?_⟩
  obtain ⟨b, off, ha, hcell⟩ := hc hp
  refine ⟨b, off, ha, fun i hi => ?_⟩
  obtain ⟨da, dc, g1, g2, g3, g4⟩ := hcell i hi
  have hb := World.block_lt_of_cell? _ _ g1
  exact ⟨da, dc, (k.cell (p := ⟨b, off + i * 3, none⟩) hb).trans g1, (k.cell (p := ⟨b, off + i * 3 + 1, none⟩) hb).trans g2, (k.cell (p := ⟨b, off + i * 3 + 2, none⟩) hb).trans g3, g4.below k⟩

theorem SRead.empty (w : World) (a : Option Addr) (cap : Nat) : SRead w (.slice a 0 cap) [] := ⟨a, cap, rfl, fun h => by simp at h⟩

def SSmall (ss : List (Int × Int × List Int)) : Prop := ss.length ≤ 281474976710656 ∧ ∀ i, (ss.getD i (0, 0, [])).2.2.length ≤ 281474976710656
def SBound (ss : List (Int × Int × List Int)) : Prop := ss.length ≤ 9223372036854775807 ∧ ∀ i, (ss.getD i (0, 0, [])).2.2.length ≤ 9223372036854775807

end Go.Proofs.YtpjdhfbeofdplaaGreatDoor

namespace Go.Proofs.YtpjdhfbeofdplaaGreatDoor
open Go.RowKit

/-- the bytes of ss -/
def dataS : List (Int × Int × List Int) → Int
  | [] => 0
  | s :: r => s.2.2.length + dataS r
def sumS (ss : List (Int × Int × List Int)) : Int := ss.length + dataS ss

theorem dataS_nonneg (ss : List (Int × Int × List Int)) : 0 ≤ dataS ss := by
  induction ss with
  | nil => simp [dataS]
  | cons s r ih => simp only [dataS]; omega

theorem dataS_take_succ (ss : List (Int × Int × List Int)) (i : Nat) (h : i < ss.length) : dataS (ss.take (i + 1)) = dataS (ss.take i) + (ss.getD i (0, 0, [])).2.2.length := by
  induction ss generalizing i with
  | nil => simp at h
  | cons s r ih =>
    match i with
    | 0 => simp [dataS]
    | i + 1 =>
      have := ih i (by simpa using h)
      simp only [List.take_succ_cons, dataS, List.getD_cons_succ] at this ⊢
      omega

theorem dataS_take_le (ss : List (Int × Int × List Int)) (i : Nat) : dataS (ss.take i) ≤ dataS ss := by
  induction ss generalizing i with
  | nil => simp
  | cons s r ih =>
    match i with
    | 0 => have := dataS_nonneg (s :: r); simpa [dataS] using this
    | i + 1 =>
      have := ih i
      simp only [List.take_succ_cons, dataS] at this ⊢
      omega

theorem dataS_el (ss : List (Int × Int × List Int)) (i : Nat) : ((ss.getD i (0, 0, [])).2.2.length : Int) ≤ dataS ss := by
  by_cases h : i < ss.length
  · have h1 := dataS_take_succ ss i h
    have h2 := dataS_take_le ss (i + 1)
    have h3 := dataS_nonneg (ss.take i)
    omega
  · have := dataS_nonneg ss
    simp [h]; exact this

end Go.Proofs.YtpjdhfbeofdplaaGreatDoor

namespace Go.Proofs.YtpjdhfbeofdplaaGreatDoor
open Go.RowKit

/-- element i of the []Step at block b, offset off: its cells, which may be written; its bytes in a block of their own -/
def SEl (w : World) (b off g i : Nat) (p : Int × Int × List Int) : Prop :=
  ∃ da dc, w.cell? ⟨b, off + i * 3, none⟩ = some (.int .i64 p.1) ∧ w.cell? ⟨b, off + i * 3 + 1, none⟩ = some (.int .i64 p.2.1) ∧ w.cell? ⟨b, off + i * 3 + 2, none⟩ = some (.slice da p.2.2.length dc) ∧ w.frozen? ⟨b, off + i * 3, none⟩ = false ∧ w.frozen? ⟨b, off + i * 3 + 1, none⟩ = false ∧ Own8 g (g + 1) w (.slice da p.2.2.length dc) p.2.2

/-- the []Step value v reads in w as ss; spine and bytes lie in blocks from lo up to hi, each in its own -/
def SOwn (lo hi : Nat) (w : World) (v : Value) (ss : List (Int × Int × List Int)) : Prop :=
  ∃ a cap, v = .slice a ss.length cap ∧ (0 < ss.length → ∃ b off, a = some ⟨b, off, none⟩ ∧ lo ≤ b ∧ b < hi ∧ b < w.heap.size ∧ ∃ g : Nat → Nat, (∀ i, i < ss.length → lo ≤ g i ∧ g i < hi ∧ g i ≠ b ∧ g i < w.heap.size ∧ SEl w b off (g i) i (ss.getD i (0, 0, []))) ∧ (∀ i j, i < ss.length → j < ss.length → g i = g j → i = j))

theorem SEl.kept {w w' : World} {b off g i : Nat} {p : Int × Int × List Int} (h : SEl w b off g i p) (hs : w.heap.size ≤ w'.heap.size) (h1 : w'.heap[b]? = w.heap[b]?) (h2 : g < w.heap.size → w'.heap[g]? = w.heap[g]?) : SEl w' b off g i p := by
  obtain ⟨da, dc, e1, e2, e3, e4, e5, e6⟩ := h
  refine ⟨da, dc, ?_, ?_, ?_, ?_, ?_, e6.kept hs fun k k1 k2 k3 => ?_⟩
  · rw [World.cell?_of_block (w := w) (w' := w') (a := ⟨b, off + i * 3, none⟩) h1]; exact e1
  · rw [World.cell?_of_block (w := w) (w' := w') (a := ⟨b, off + i * 3 + 1, none⟩) h1]; exact e2
  · rw [World.cell?_of_block (w := w) (w' := w') (a := ⟨b, off + i * 3 + 2, none⟩) h1]; exact e3
  · rw [World.frozen?_of_block (w := w) (w' := w') (a := ⟨b, off + i * 3, none⟩) h1]; exact e4
  · rw [World.frozen?_of_block (w := w) (w' := w') (a := ⟨b, off + i * 3 + 1, none⟩) h1]; exact e5
  · obtain rfl : k = g := by omega
    exact h2 k3

theorem SOwn.kept {lo hi : Nat} {w w' : World} {v : Value} {ss : List (Int × Int × List Int)} (h : SOwn lo hi w v ss) (hs : w.heap.size ≤ w'.heap.size) (k : ∀ b, lo ≤ b → b < hi → b < w.heap.size → w'.heap[b]? = w.heap[b]?) : SOwn lo hi w' v ss := by
  obtain ⟨a, cap, hv, hc⟩ := h
  refine ⟨a, cap, hv, fun hp => ?_⟩
  obtain ⟨b, off, ha, h1, h2, h3, g, hg, hj⟩ := hc hp
  refine ⟨b, off, ha, h1, h2, by omega, g, fun i hi => ?_, hj⟩
  obtain ⟨g1, g2, g3, g4, g5⟩ := hg i hi
  exact ⟨g1, g2, g3, by omega, g5.kept hs (k b h1 h2 h3) (fun _ => k _ g1 g2 g4)⟩

theorem SOwn.upd {lo hi lo' hi' : Nat} {w w' : World} {v : Value} {ss : List (Int × Int × List Int)} (h : SOwn lo hi w v ss) (k : Upd lo' hi' w w') (hd : hi ≤ lo' ∨ hi' ≤ lo) : SOwn lo hi w' v ss :=
  h.kept k.size fun b h1 h2 h3 => k.block b h3 (by omega)

theorem SOwn.below {lo hi : Nat} {w w' : World} {v : Value} {ss : List (Int × Int × List Int)} (h : SOwn lo hi w v ss) (k : Below w.heap.size w w') : SOwn lo hi w' v ss :=
  h.kept k.size fun b _ _ h3 => k.block b h3

theorem SOwn.wider {lo hi lo' hi' : Nat} {w : World} {v : Value} {ss : List (Int × Int × List Int)} (h : SOwn lo hi w v ss) (e1 : lo' ≤ lo) (e2 : hi ≤ hi') : SOwn lo' hi' w v ss := by
  obtain ⟨a, cap, hv, hc⟩ := h
  refine ⟨a, cap, hv, fun hp => ?_⟩
  obtain ⟨b, off, ha, h1, h2, h3, g, hg, hj⟩ := hc hp
  refine ⟨b, off, ha, by omega, by omega, h3, g, fun i hi => ?_, hj⟩
  obtain ⟨g1, g2, g3, g4, g5⟩ := hg i hi
  exact ⟨by omega, by omega, g3, g4, g5⟩

theorem SOwn.empty (lo hi : Nat) (w : World) (a : Option Addr) (cap : Nat) : SOwn lo hi w (.slice a 0 cap) [] := ⟨a, cap, rfl, fun h => by simp at h⟩

theorem SOwn.read {lo hi : Nat} {w : World} {v : Value} {ss : List (Int × Int × List Int)} (h : SOwn lo hi w v ss) : SRead w v ss := by
  obtain ⟨a, cap, hv, hc⟩ := h
  refine ⟨a, cap, hv, fun hp => ?_⟩
  obtain ⟨b, off, ha, h1, h2, h3, g, hg, hj⟩ := hc hp
  refine ⟨b, off, ha, fun i hi => ?_⟩
  obtain ⟨_, _, _, _, da, dc, e1, e2, e3, _, _, e6⟩ := hg i hi
  exact ⟨da, dc, e1, e2, e3, e6.bts⟩

/-- how many places a mark takes -/
def placeS (ss : List (Int × Int × List Int)) : Int := 2 * ss.length + dataS ss

/-- an element marked from k on -/
def markEl (k : Int) (p : Int × Int × List Int) : Int × Int × List Int := (k, k + 1, marks (k + 2) p.2.2.length)

theorem placeS_nonneg (ss : List (Int × Int × List Int)) : 0 ≤ placeS ss := by have := dataS_nonneg ss; unfold placeS; omega
theorem placeS_take_succ (ss : List (Int × Int × List Int)) (i : Nat) (h : i < ss.length) : placeS (ss.take (i + 1)) = placeS (ss.take i) + 2 + (ss.getD i (0, 0, [])).2.2.length := by
  have h1 := dataS_take_succ ss i h
  simp only [placeS, List.length_take]
  omega
theorem placeS_take_le (ss : List (Int × Int × List Int)) (i : Nat) : placeS (ss.take i) ≤ placeS ss := by
  have h1 := dataS_take_le ss i
  simp only [placeS, List.length_take]
  omega

/-- the first j elements marked, the others as they were -/
def SMid (wr : World) (b off : Nat) (g : Nat → Nat) (ss : List (Int × Int × List Int)) (_k : Int) (j : Nat) : Prop :=
  ∀ i, i < ss.length → j ≤ i → SEl wr b off (g i) i (ss.getD i (0, 0, []))

theorem SMid.step {wr w1 : World} {b off : Nat} {g : Nat → Nat} {ss : List (Int × Int × List Int)} {k x y : Int} {j : Nat} (h : SMid wr b off g ss k j) (hj : j < ss.length)
    (hg : ∀ i, i < ss.length → g i ≠ b ∧ g i < wr.heap.size) (hb : b < wr.heap.size) (hinj : ∀ i j, i < ss.length → j < ss.length → g i = g j → i = j)
    (hu : Upd (g j) (g j + 1) ((wr.setCell ⟨b, off + j * 3, none⟩ (.int .i64 x)).setCell ⟨b, off + j * 3 + 1, none⟩ (.int .i64 y)) w1) : SMid w1 b off g ss k (j + 1) := by
  intro i hi hji
  have hsz : wr.heap.size ≤ w1.heap.size := by have := hu.size; simpa using this
  have hbb : w1.heap[b]? = ((wr.setCell ⟨b, off + j * 3, none⟩ (.int .i64 x)).setCell ⟨b, off + j * 3 + 1, none⟩ (.int .i64 y)).heap[b]? := hu.block b (by simpa using hb) (by have := (hg j hj).1; omega)
  obtain ⟨da', dc', e1, e2, e3, e4, e5, e6⟩ := h i hi (by omega)
  have hne : g i ≠ g j := fun e => by have := hinj i j hi hj e; omega
  refine ⟨da', dc', ?_, ?_, ?_, ?_, ?_, e6.kept hsz fun q q1 q2 q3 => ?_⟩
  · rw [World.cell?_of_block (a := ⟨b, off + i * 3, none⟩) hbb, World.cell?_setCell_other _ _ _ _ (by intro hh; simp only [Addr.mk.injEq] at hh; omega), World.cell?_setCell_other _ _ _ _ (by intro hh; simp only [Addr.mk.injEq] at hh; omega), e1]
  · rw [World.cell?_of_block (a := ⟨b, off + i * 3 + 1, none⟩) hbb, World.cell?_setCell_other _ _ _ _ (by intro hh; simp only [Addr.mk.injEq] at hh; omega), World.cell?_setCell_other _ _ _ _ (by intro hh; simp only [Addr.mk.injEq] at hh; omega), e2]
  · rw [World.cell?_of_block (a := ⟨b, off + i * 3 + 2, none⟩) hbb, World.cell?_setCell_other _ _ _ _ (by intro hh; simp only [Addr.mk.injEq] at hh; omega), World.cell?_setCell_other _ _ _ _ (by intro hh; simp only [Addr.mk.injEq] at hh; omega), e3]
  · rw [World.frozen?_of_block (a := ⟨b, off + i * 3, none⟩) hbb]; simpa using e4
  · rw [World.frozen?_of_block (a := ⟨b, off + i * 3 + 1, none⟩) hbb]; simpa using e5
  · obtain rfl : q = g i := by omega
    rw [hu.block (g i) (by simpa using q3) (by omega), Below.heap_setCell _ _ _ _ (by have := (hg i hi).1; simpa using this)]
    exact Below.heap_setCell _ _ _ _ (by have := (hg i hi).1; simpa using this)

end Go.Proofs.YtpjdhfbeofdplaaGreatDoor
