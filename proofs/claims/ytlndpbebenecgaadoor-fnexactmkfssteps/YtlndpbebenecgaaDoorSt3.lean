import Derived.Test.YtlndpbebenecgaaDoorSt2
namespace Go.Proofs.YtlndpbebenecgaaDoor
open Go.RowKit

/-- element i of the []Step at block b, offset off: its cells, which may be written; its bytes in a block of their own -/
def SEl (w : World) (b off g i : Nat) (p : Int × Int × List Int) : Prop :=
  ∃ da dc, w.cell? ⟨b, off + i * 3, none⟩ = some (.int .i64 p.1) ∧ w.cell? ⟨b, off + i * 3 + 1, none⟩ = some (.int .i64 p.2.1) ∧ w.cell? ⟨b, off + i * 3 + 2, none⟩ = some (.slice da p.2.2.length dc) ∧ w.frozen? ⟨b, off + i * 3, none⟩ = false ∧ w.frozen? ⟨b, off + i * 3 + 1, none⟩ = false ∧ Own8 g (g + 1) w (.slice da p.2.2.length dc) p.2.2

/-- the []Step value v reads in w as ss; spine and bytes lie in blocks from lo up to hi, each in its own -/
def SOwn (lo hi : Nat) (w : World) (v : Value) (ss : List (Int × Int × List Int)) : Prop :=
  ∃ a cap, v = .slice a ss.length cap ∧ (0 < ss.length → ∃ b off, a = some ⟨b, off, none⟩ ∧ lo ≤ b ∧ b < hi ∧ b < w.heap.size ∧ ∃ g : Nat → Nat, (∀ i, i < ss.length → lo ≤ g i ∧ g i < hi ∧ g i ≠ b ∧ g i < w.heap.size ∧ SEl w b off (g i) i (ss.getD i (0, 0, []))) ∧ (∀ i j, i < ss.length → j < ss.length → g i = g j → i = j))

theorem SEl.kept {w w' : World} {b off g i : Nat} {p : Int × Int × List Int} (h : SEl w b off g i p) (hs : w.heap.size ≤ w'.heap.size) (h1 : w'.heap[b]? = w.heap[b]?) (h2 : g < w.heap.size → w'.heap[g]? = w.heap[g]?) : SEl w' b off g i p := by
  obtain ⟨da, dc, e1, e2, e3, e4, e5, e6⟩ := h
  refine ⟨da, dc, ?_, ?_, ?_, ?_, ?_, e6.kept hs fun k k1 k2 k3 => ?_⟩
  · rw [World.cell?_of_block (w := w) (w' := w') (a := ⟨b, off + i * 3, none⟩) h1]; exact e1
  · rw [World.cell?_of_block (w := w) (w' := w') (a := ⟨b, off + i * 3 + 1, none⟩) h1]; exact e2
  · rw [World.cell?_of_block (w := w) (w' := w') (a := ⟨b, off + i * 3 + 2, none⟩) h1]; exact e3
  · rw [World.frozen?_of_block (w := w) (w' := w') (a := ⟨b, off + i * 3, none⟩) h1]; exact e4
  · rw [World.frozen?_of_block (w := w) (w' := w') (a := ⟨b, off + i * 3 + 1, none⟩) h1]; exact e5
  · obtain rfl : k = g := by omega
    exact h2 k3

theorem SOwn.kept {lo hi : Nat} {w w' : World} {v : Value} {ss : List (Int × Int × List Int)} (h : SOwn lo hi w v ss) (hs : w.heap.size ≤ w'.heap.size) (k : ∀ b, lo ≤ b → b < hi → b < w.heap.size → w'.heap[b]? = w.heap[b]?) : SOwn lo hi w' v ss := by
  obtain ⟨a, cap, hv, hc⟩ := h
  refine ⟨a, cap, hv, fun hp => ?_⟩
  obtain ⟨b, off, ha, h1, h2, h3, g, hg, hj⟩ := hc hp
  refine ⟨b, off, ha, h1, h2, by omega, g, fun i hi => ?_, hj⟩
  obtain ⟨g1, g2, g3, g4, g5⟩ := hg i hi
  exact ⟨g1, g2, g3, by omega, g5.kept hs (k b h1 h2 h3) (fun _ => k _ g1 g2 g4)⟩

theorem SOwn.upd {lo hi lo' hi' : Nat} {w w' : World} {v : Value} {ss : List (Int × Int × List Int)} (h : SOwn lo hi w v ss) (k : Upd lo' hi' w w') (hd : hi ≤ lo' ∨ hi' ≤ lo) : SOwn lo hi w' v ss :=
  h.kept k.size fun b h1 h2 h3 => k.block b h3 (by omega)

theorem SOwn.below {lo hi : Nat} {w w' : World} {v : Value} {ss : List (Int × Int × List Int)} (h : SOwn lo hi w v ss) (k : Below w.heap.size w w') : SOwn lo hi w' v ss :=
  h.kept k.size fun b _ _ h3 => k.block b h3

theorem SOwn.wider {lo hi lo' hi' : Nat} {w : World} {v : Value} {ss : List (Int × Int × List Int)} (h : SOwn lo hi w v ss) (e1 : lo' ≤ lo) (e2 : hi ≤ hi') : SOwn lo' hi' w v ss := by
  obtain ⟨a, cap, hv, hc⟩ := h
  refine ⟨a, cap, hv, fun hp => ?_⟩
  obtain ⟨b, off, ha, h1, h2, h3, g, hg, hj⟩ := hc hp
  refine ⟨b, off, ha, by omega, by omega, h3, g, fun i hi => ?_, hj⟩
  obtain ⟨g1, g2, g3, g4, g5⟩ := hg i hi
  exact ⟨by omega, by omega, g3, g4, g5⟩

theorem SOwn.empty (lo hi : Nat) (w : World) (a : Option Addr) (cap : Nat) : SOwn lo hi w (.slice a 0 cap) [] := ⟨a, cap, rfl, fun h => by simp at h⟩

theorem SOwn.read {lo hi : Nat} {w : World} {v : Value} {ss : List (Int × Int × List Int)} (h : SOwn lo hi w v ss) : SRead w v ss := by
  obtain ⟨a, cap, hv, hc⟩ := h
  refine ⟨a, cap, hv, fun hp => ?_⟩
  obtain ⟨b, off, ha, h1, h2, h3, g, hg, hj⟩ := hc hp
  refine ⟨b, off, ha, fun i hi => ?_⟩
  obtain ⟨_, _, _, _, da, dc, e1, e2, e3, _, _, e6⟩ := hg i hi
  exact ⟨da, dc, e1, e2, e3, e6.bts⟩

/-- how many places a mark takes -/
def placeS (ss : List (Int × Int × List Int)) : Int := 2 * ss.length + dataS ss

/-- an element marked from k on -/
def markEl (k : Int) (p : Int × Int × List Int) : Int × Int × List Int := (k, k + 1, marks (k + 2) p.2.2.length)

theorem placeS_nonneg (ss : List (Int × Int × List Int)) : 0 ≤ placeS ss := by have := dataS_nonneg ss; unfold placeS; omega
theorem placeS_take_succ (ss : List (Int × Int × List Int)) (i : Nat) (h : i < ss.length) : placeS (ss.take (i + 1)) = placeS (ss.take i) + 2 + (ss.getD i (0, 0, [])).2.2.length := by
  have h1 := dataS_take_succ ss i h
  simp only [placeS, List.length_take]
  omega
theorem placeS_take_le (ss : List (Int × Int × List Int)) (i : Nat) : placeS (ss.take i) ≤ placeS ss := by
  have h1 := dataS_take_le ss i
  simp only [placeS, List.length_take]
  omega

/-- the first j elements marked, the others as they were -/
def SMid (wr : World) (b off : Nat) (g : Nat → Nat) (ss : List (Int × Int × List Int)) (_k : Int) (j : Nat) : Prop :=
  ∀ i, i < ss.length → j ≤ i → SEl wr b off (g i) i (ss.getD i (0, 0, []))

theorem SMid.step {wr w1 : World} {b off : Nat} {g : Nat → Nat} {ss : List (Int × Int × List Int)} {k x y : Int} {j : Nat} (h : SMid wr b off g ss k j) (hj : j < ss.length)
    (hg : ∀ i, i < ss.length → g i ≠ b ∧ g i < wr.heap.size) (hb : b < wr.heap.size) (hinj : ∀ i j, i < ss.length → j < ss.length → g i = g j → i = j)
    (hu : Upd (g j) (g j + 1) ((wr.setCell ⟨b, off + j * 3, none⟩ (.int .i64 x)).setCell ⟨b, off + j * 3 + 1, none⟩ (.int .i64 y)) w1) : SMid w1 b off g ss k (j + 1) := by
  intro i hi hji
  have hsz : wr.heap.size ≤ w1.heap.size := by have := hu.size; simpa using this
  have hbb : w1.heap[b]? = ((wr.setCell ⟨b, off + j * 3, none⟩ (.int .i64 x)).setCell ⟨b, off + j * 3 + 1, none⟩ (.int .i64 y)).heap[b]? := hu.block b (by simpa using hb) (by have := (hg j hj).1; omega)
  obtain ⟨da', dc', e1, e2, e3, e4, e5, e6⟩ := h i hi (by omega)
  have hne : g i ≠ g j := fun e => by have := hinj i j hi hj e; omega
  refine ⟨da', dc', ?_, ?_, ?_, ?_, ?_, e6.kept hsz fun q q1 q2 q3 => ?_⟩
  · rw [World.cell?_of_block (a := ⟨b, off + i * 3, none⟩) hbb, World.cell?_setCell_other _ _ _ _ (by intro hh; simp only [Addr.mk.injEq] at hh; omega), World.cell?_setCell_other _ _ _ _ (by intro hh; simp only [Addr.mk.injEq] at hh; omega), e1]
  · rw [World.cell?_of_block (a := ⟨b, off + i * 3 + 1, none⟩) hbb, World.cell?_setCell_other _ _ _ _ (by intro hh; simp only [Addr.mk.injEq] at hh; omega), World.cell?_setCell_other _ _ _ _ (by intro hh; simp only [Addr.mk.injEq] at hh; omega), e2]
  · rw [World.cell?_of_block (a := ⟨b, off + i * 3 + 2, none⟩) hbb, World.cell?_setCell_other _ _ _ _ (by intro hh; simp only [Addr.mk.injEq] at hh; omega), World.cell?_setCell_other _ _ _ _ (by intro hh; simp only [Addr.mk.injEq] at hh; omega), e3]
  · rw [World.frozen?_of_block (a := ⟨b, off + i * 3, none⟩) hbb]; simpa using e4
  · rw [World.frozen?_of_block (a := ⟨b, off + i * 3 + 1, none⟩) hbb]; simpa using e5
  · obtain rfl : q = g i := by omega
    rw [hu.block (g i) (by simpa using q3) (by omega), Below.heap_setCell _ _ _ _ (by have := (hg i hi).1; simpa using this)]
    exact Below.heap_setCell _ _ _ _ (by have := (hg i hi).1; simpa using this)

set_option maxHeartbeats 2000000 in
theorem markStepS_any (lo hi : Nat) (v : Value) (ss : List (Int × Int × List Int)) (k : Int) (w : World) (hv : SOwn lo hi w v ss) (hk : 0 ≤ k) (hn : k + placeS ss ≤ 9223372036854775806) (hl : ss.length ≤ 281474976710656) :
    Calls Tryd.prog 11 #[v, .int .i64 k] w fun e w' => e = .returned (.int .i64 (k + placeS ss)) ∧ Upd lo hi w w' := by
  obtain ⟨a, cap, rfl, hc⟩ := hv
  by_cases hz : 0 < ss.length
  · obtain ⟨b, off, rfl, h1, h2, h3, g, hg, hinj⟩ := hc hz
    have hM : SMid w b off g ss k 0 := fun i hi _ => (hg i hi).2.2.2.2
    have hgb : ∀ i, i < ss.length → lo ≤ g i ∧ g i < hi ∧ g i ≠ b ∧ g i < w.heap.size := fun i hi => ⟨(hg i hi).1, (hg i hi).2.1, (hg i hi).2.2.1, (hg i hi).2.2.2.1⟩
    clear hc hg
    go_enter Tryd.func11, Tryd.ntmps11
    go_wp2
    go_loopw [1, 5] (fun q i wr => ∃ j : Nat, j ≤ ss.length ∧ i = .int .i64 j ∧ q = .int .i64 (k + placeS (ss.take j)) ∧ SMid wr b off g ss k j ∧ Upd lo hi w wr) (fun _ i _ => ss.length - (intOf i).toNat)
    case atStart => exact ⟨0, Nat.zero_le _, rfl, by simp [placeS, dataS], hM, Upd.refl _ _ _⟩
    case round =>
      obtain ⟨j, hj, rfl, rfl, ho, hu⟩ := hrel
      by_cases hlt : j < ss.length
      · obtain ⟨da, dc, e1, e2, e3, e4, e5, e6⟩ := ho j hlt (Nat.le_refl _)
        have hs1 := placeS_take_succ ss j hlt
        have hs2 := placeS_take_le ss (j + 1)
        have hs0 := placeS_nonneg (ss.take j)
        have hgj := hgb j hlt
        have hsz := hu.size
        have HST := fun w1 x y => SMid.step (w1 := w1) (x := x) (y := y) ho hlt (fun i hi => ⟨(hgb i hi).2.2.1, by have := (hgb i hi).2.2.2; omega⟩) (by omega) hinj
        have HS1 : Hid (placeS (ss.take (j + 1)) = placeS (ss.take j) + 2 + (ss.getD j (0, 0, [])).2.2.length) := hs1
        have hbd : k + placeS (ss.take j) + 2 + (ss.getD j (0, 0, [])).2.2.length ≤ 9223372036854775806 := by omega
        have e7 := fun x y => e6.kept (w' := (wr.setCell ⟨b, off + j * 3, none⟩ (.int .i64 x)).setCell ⟨b, off + j * 3 + 1, none⟩ (.int .i64 y)) (by simp) fun q q1 q2 q3 => (Below.heap_setCell _ _ _ _ (by have := hgj.2.2.1; simp; omega)).trans (Below.heap_setCell _ _ _ _ (by have := hgj.2.2.1; simp; omega))
        have hu1 := fun x y => (hu.setCell (p := ⟨b, off + j * 3, none⟩) h1 h2 (.int .i64 x)).setCell (p := ⟨b, off + j * 3 + 1, none⟩) h1 h2 (.int .i64 y)
        have HSTH := fun w1 x y => (show Hid _ from HST w1 x y)
        clear hs1 hs2 ho HST
        generalize hS : placeS (ss.take j) = S at *
        generalize hp : ss.getD j (0, 0, []) = p at *
        obtain ⟨q, q2, zs⟩ := p
        have HS : Hid (placeS (ss.take j) = S) := hS
        have HP : Hid (ss.getD j (0, 0, []) = (q, q2, zs)) := hp
        clear hS hp
        simp only at e1 e2 e3 e6 e7 hbd
        go_wp2_with fail
        refine (markByteS_any (g j) (g j + 1) _ zs _ _ (e7 _ _) (by omega) (by omega)).mono ?_
        rintro e w1 ⟨rfl, -, hv1⟩
        have hst := (HSTH w1 _ _).out hv1
        have hu2 : Upd lo hi w w1 := (hu1 _ _).trans (hv1.wider (by omega) (by omega))
        clear HSTH hv1 hu1 e7 e6
        go_wp2
        go_roundw
        case rel => exact ⟨j + 1, by omega, by go_num, by rw [HS1.out]; simp only [Value.int.injEq, true_and]; omega, hst, hu2⟩
        case measure => simp [intOf]; omega
      · have hje : ss.length = j := by omega
        have HF : Hid (placeS (ss.take j) = placeS ss) := by rw [← hje, List.take_length]; rfl
        clear hje ho
        go_wp2
        go_ret
        exact ⟨by rw [HF.out]; rfl, hu⟩
  · have hz0 : ss = [] := List.eq_nil_of_length_eq_zero (by omega)
    subst hz0
    clear hc
    go_enter Tryd.func11, Tryd.ntmps11
    go_wp2
    go_loopw [1, 5] (fun q i wr => i = .int .i64 0 ∧ q = .int .i64 k ∧ w = wr) (fun _ _ _ => 0)
    case atStart => exact ⟨rfl, rfl, rfl⟩
    case round =>
      obtain ⟨rfl, rfl, rfl⟩ := hrel
      go_wp2
      go_ret
      exact ⟨by simp [placeS, dataS], Upd.refl _ _ _⟩
end Go.Proofs.YtlndpbebenecgaaDoor
