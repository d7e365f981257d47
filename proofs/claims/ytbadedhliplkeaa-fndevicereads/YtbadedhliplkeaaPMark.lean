import Derived.Test.YtbadedhliplkeaaPend
namespace Go.Proofs.Ytbadedhliplkeaa
open Go.RowKit

/-- element i of the []Pending at block b, offset off: its cells, which may be written; its bytes in a block of their own -/
def PEl (w : World) (b off g i : Nat) (p : Int × List Int) : Prop :=
  ∃ da dc, w.cell? ⟨b, off + i * 2, none⟩ = some (.int .i64 p.1) ∧ w.cell? ⟨b, off + i * 2 + 1, none⟩ = some (.slice da p.2.length dc) ∧ w.frozen? ⟨b, off + i * 2, none⟩ = false ∧ Own8 g (g + 1) w (.slice da p.2.length dc) p.2

/-- the []Pending value v reads in w as ps; spine and bytes lie in blocks from lo up to hi, each in its own -/
def POwn (lo hi : Nat) (w : World) (v : Value) (ps : List (Int × List Int)) : Prop :=
  ∃ a cap, v = .slice a ps.length cap ∧ (0 < ps.length → ∃ b off, a = some ⟨b, off, none⟩ ∧ lo ≤ b ∧ b < hi ∧ b < w.heap.size ∧ ∃ g : Nat → Nat, (∀ i, i < ps.length → lo ≤ g i ∧ g i < hi ∧ g i ≠ b ∧ g i < w.heap.size ∧ PEl w b off (g i) i (ps.getD i (0, []))) ∧ (∀ i j, i < ps.length → j < ps.length → g i = g j → i = j))

theorem PEl.kept {w w' : World} {b off g i : Nat} {p : Int × List Int} (h : PEl w b off g i p) (hs : w.heap.size ≤ w'.heap.size) (h1 : w'.heap[b]? = w.heap[b]?) (h2 : g < w.heap.size → w'.heap[g]? = w.heap[g]?) : PEl w' b off g i p := by
  obtain ⟨da, dc, e1, e2, e3, e4⟩ := h
  refine ⟨da, dc, ?_, ?_, ?_, e4.kept hs fun k k1 k2 k3 => ?_⟩
  · rw [World.cell?_of_block (w := w) (w' := w') (a := ⟨b, off + i * 2, none⟩) h1]; exact e1
  · rw [World.cell?_of_block (w := w) (w' := w') (a := ⟨b, off + i * 2 + 1, none⟩) h1]; exact e2
  · rw [World.frozen?_of_block (w := w) (w' := w') (a := ⟨b, off + i * 2, none⟩) h1]; exact e3
  · obtain rfl : k = g := by omega
    exact h2 k3

theorem POwn.kept {lo hi : Nat} {w w' : World} {v : Value} {ps : List (Int × List Int)} (h : POwn lo hi w v ps) (hs : w.heap.size ≤ w'.heap.size) (k : ∀ b, lo ≤ b → b < hi → b < w.heap.size → w'.heap[b]? = w.heap[b]?) : POwn lo hi w' v ps := by
  obtain ⟨a, cap, hv, hc⟩ := h
  refine ⟨a, cap, hv, fun hp => ?_⟩
  obtain ⟨b, off, ha, h1, h2, h3, g, hg, hj⟩ := hc hp
  refine ⟨b, off, ha, h1, h2, by omega, g, fun i hi => ?_, hj⟩
  obtain ⟨g1, g2, g3, g4, g5⟩ := hg i hi
  exact ⟨g1, g2, g3, by omega, g5.kept hs (k b h1 h2 h3) (fun _ => k _ g1 g2 g4)⟩

theorem POwn.upd {lo hi lo' hi' : Nat} {w w' : World} {v : Value} {ps : List (Int × List Int)} (h : POwn lo hi w v ps) (k : Upd lo' hi' w w') (hd : hi ≤ lo' ∨ hi' ≤ lo) : POwn lo hi w' v ps :=
  h.kept k.size fun b h1 h2 h3 => k.block b h3 (by omega)

theorem POwn.below {lo hi : Nat} {w w' : World} {v : Value} {ps : List (Int × List Int)} (h : POwn lo hi w v ps) (k : Below w.heap.size w w') : POwn lo hi w' v ps :=
  h.kept k.size fun b _ _ h3 => k.block b h3

theorem POwn.wider {lo hi lo' hi' : Nat} {w : World} {v : Value} {ps : List (Int × List Int)} (h : POwn lo hi w v ps) (e1 : lo' ≤ lo) (e2 : hi ≤ hi') : POwn lo' hi' w v ps := by
  obtain ⟨a, cap, hv, hc⟩ := h
  refine ⟨a, cap, hv, fun hp => ?_⟩
  obtain ⟨b, off, ha, h1, h2, h3, g, hg, hj⟩ := hc hp
  refine ⟨b, off, ha, by omega, by omega, h3, g, fun i hi => ?_, hj⟩
  obtain ⟨g1, g2, g3, g4, g5⟩ := hg i hi
  exact ⟨by omega, by omega, g3, g4, g5⟩

theorem POwn.empty (lo hi : Nat) (w : World) (a : Option Addr) (cap : Nat) : POwn lo hi w (.slice a 0 cap) [] := ⟨a, cap, rfl, fun h => by simp at h⟩

theorem POwn.read {lo hi : Nat} {w : World} {v : Value} {ps : List (Int × List Int)} (h : POwn lo hi w v ps) : PRead w v ps := by
  obtain ⟨a, cap, hv, hc⟩ := h
  refine ⟨a, cap, hv, fun hp => ?_⟩
  obtain ⟨b, off, ha, h1, h2, h3, g, hg, hj⟩ := hc hp
  refine ⟨b, off, ha, fun i hi => ?_⟩
  obtain ⟨_, _, _, _, da, dc, e1, e2, e3, e4⟩ := hg i hi
  exact ⟨da, dc, e1, e2, e4.bts⟩

/-- what a mark from k on leaves -/
def markP : Int → List (Int × List Int) → List (Int × List Int)
  | _, [] => []
  | k, p :: r => (k, marks (k + 1) p.2.length) :: markP (k + 1 + p.2.length) r
/-- how many places a mark takes -/
def sumP : List (Int × List Int) → Int
  | [] => 0
  | p :: r => 1 + p.2.length + sumP r

theorem markP_length (k : Int) (ps : List (Int × List Int)) : (markP k ps).length = ps.length := by
  induction ps generalizing k with
  | nil => rfl
  | cons p r ih => simp [markP, ih]

theorem sumP_nonneg (ps : List (Int × List Int)) : 0 ≤ sumP ps := by
  induction ps with
  | nil => simp [sumP]
  | cons p r ih => simp only [sumP]; omega

theorem sumP_take_succ (ps : List (Int × List Int)) (i : Nat) (h : i < ps.length) : sumP (ps.take (i + 1)) = sumP (ps.take i) + 1 + (ps.getD i (0, [])).2.length := by
  induction ps generalizing i with
  | nil => simp at h
  | cons p r ih =>
    match i with
    | 0 => simp [sumP]
    | i + 1 =>
      have := ih i (by simpa using h)
      simp only [List.take_succ_cons, sumP, List.getD_cons_succ] at this ⊢
      omega

theorem sumP_take_le (ps : List (Int × List Int)) (i : Nat) : sumP (ps.take i) ≤ sumP ps := by
  induction ps generalizing i with
  | nil => simp
  | cons p r ih =>
    match i with
    | 0 => simp only [List.take_zero, sumP]; have := sumP_nonneg r; omega
    | i + 1 => simp only [List.take_succ_cons, sumP]; have := ih i; omega

theorem markP_get (k : Int) (ps : List (Int × List Int)) (i : Nat) (h : i < ps.length) : (markP k ps).getD i (0, []) = (k + sumP (ps.take i), marks (k + sumP (ps.take i) + 1) (ps.getD i (0, [])).2.length) := by
  induction ps generalizing i k with
  | nil => simp at h
  | cons p r ih =>
    match i with
    | 0 => simp [markP, sumP]
    | i + 1 =>
      have := ih (k + 1 + p.2.length) i (by simpa using h)
      simp only [markP, List.getD_cons_succ, List.take_succ_cons, sumP] at this ⊢
      rw [this, show k + 1 + (p.2.length : Int) + sumP (r.take i) = k + (1 + p.2.length + sumP (r.take i)) by omega]

/-- the first j elements marked -/
def PMid (wr : World) (b off : Nat) (g : Nat → Nat) (ps : List (Int × List Int)) (k : Int) (j : Nat) : Prop :=
  ∀ i, i < ps.length → PEl wr b off (g i) i (if i < j then (markP k ps).getD i (0, []) else ps.getD i (0, []))

theorem PMid.step {wr w1 : World} {b off : Nat} {g : Nat → Nat} {ps : List (Int × List Int)} {k : Int} {j : Nat} (h : PMid wr b off g ps k j) (hj : j < ps.length)
    (hg : ∀ i, i < ps.length → g i ≠ b ∧ g i < wr.heap.size) (hb : b < wr.heap.size) (hinj : ∀ i j, i < ps.length → j < ps.length → g i = g j → i = j) {da : Option Addr} {dc : Nat}
    (hd : wr.cell? ⟨b, off + j * 2 + 1, none⟩ = some (.slice da (ps.getD j (0, [])).2.length dc))
    (hu : Upd (g j) (g j + 1) (wr.setCell ⟨b, off + j * 2, none⟩ (.int .i64 (k + sumP (ps.take j)))) w1)
    (ho : Own8 (g j) (g j + 1) w1 (.slice da (ps.getD j (0, [])).2.length dc) (marks (k + sumP (ps.take j) + 1) (ps.getD j (0, [])).2.length)) : PMid w1 b off g ps k (j + 1) := by
  intro i hi
  have hsz : wr.heap.size ≤ w1.heap.size := by have := hu.size; simpa using this
  have hbb : w1.heap[b]? = (wr.setCell ⟨b, off + j * 2, none⟩ (.int .i64 (k + sumP (ps.take j)))).heap[b]? := hu.block b (by simpa using hb) (by have := (hg j hj).1; omega)
  by_cases hij : i = j
  · subst hij
    have hold := h i hi
    rw [if_neg (Nat.lt_irrefl _)] at hold
    obtain ⟨_, _, e1, _, e3, _⟩ := hold
    rw [if_pos (Nat.lt_succ_self _), markP_get k ps i hi]
    refine ⟨da, dc, ?_, ?_, ?_, by simpa [marks_length] using ho⟩
    · rw [World.cell?_of_block (a := ⟨b, off + i * 2, none⟩) hbb, World.cell?_setCell_same _ _ _ e1]
    · rw [World.cell?_of_block (a := ⟨b, off + i * 2 + 1, none⟩) hbb, World.cell?_setCell_other _ _ _ _ (by simp), hd, marks_length]
    · rw [World.frozen?_of_block (a := ⟨b, off + i * 2, none⟩) hbb]; simpa using e3
  · have hold := h i hi
    rw [show (if i < j + 1 then (markP k ps).getD i (0, []) else ps.getD i (0, [])) = (if i < j then (markP k ps).getD i (0, []) else ps.getD i (0, [])) from by
      by_cases hlt : i < j
      · rw [if_pos hlt, if_pos (by omega)]
      · rw [if_neg hlt, if_neg (by omega)]]
    obtain ⟨da', dc', e1, e2, e3, e4⟩ := hold
    have hne : g i ≠ g j := fun e => hij (hinj i j hi hj e)
    refine ⟨da', dc', ?_, ?_, ?_, e4.kept hsz fun q q1 q2 q3 => ?_⟩
    · rw [World.cell?_of_block (a := ⟨b, off + i * 2, none⟩) hbb, World.cell?_setCell_other _ _ _ _ (by intro hh; simp only [Addr.mk.injEq] at hh; omega), e1]
    · rw [World.cell?_of_block (a := ⟨b, off + i * 2 + 1, none⟩) hbb, World.cell?_setCell_other _ _ _ _ (by intro hh; simp only [Addr.mk.injEq] at hh; omega), e2]
    · rw [World.frozen?_of_block (a := ⟨b, off + i * 2, none⟩) hbb]; simpa using e3
    · obtain rfl : q = g i := by omega
      rw [hu.block (g i) (by simpa using q3) (by omega)]
      exact Below.heap_setCell _ _ _ _ (by have := (hg i hi).1; simpa using this)

set_option maxHeartbeats 1000000 in
theorem markPendingS_any (lo hi : Nat) (v : Value) (ps : List (Int × List Int)) (k : Int) (w : World) (hv : POwn lo hi w v ps) (hk : 0 ≤ k) (hn : k + sumP ps ≤ 9223372036854775806) (hl : ps.length ≤ 281474976710656) :
    Calls Try.prog 34 #[v, .int .i64 k] w fun e w' => e = .returned (.int .i64 (k + sumP ps)) ∧ POwn lo hi w' v (markP k ps) ∧ Upd lo hi w w' := by
  obtain ⟨a, cap, rfl, hc⟩ := hv
  by_cases hz : 0 < ps.length
  · obtain ⟨b, off, rfl, h1, h2, h3, g, hg, hinj⟩ := hc hz
    have hM : PMid w b off g ps k 0 := fun i hi => by rw [if_neg (Nat.not_lt_zero _)]; exact (hg i hi).2.2.2.2
    have hgb : ∀ i, i < ps.length → lo ≤ g i ∧ g i < hi ∧ g i ≠ b ∧ g i < w.heap.size := fun i hi => ⟨(hg i hi).1, (hg i hi).2.1, (hg i hi).2.2.1, (hg i hi).2.2.2.1⟩
    clear hc hg
    go_enter Try.func34, Try.ntmps34
    go_wp2
    go_loopw [1, 5] (fun q i wr => ∃ j : Nat, j ≤ ps.length ∧ i = .int .i64 j ∧ q = .int .i64 (k + sumP (ps.take j)) ∧ PMid wr b off g ps k j ∧ Upd lo hi w wr) (fun _ i _ => ps.length - (intOf i).toNat)
    case atStart => exact ⟨0, Nat.zero_le _, rfl, by simp [sumP], hM, Upd.refl _ _ _⟩
    case round =>
      obtain ⟨j, hj, rfl, rfl, ho, hu⟩ := hrel
      by_cases hlt : j < ps.length
      · have hel := ho j hlt
        rw [if_neg (Nat.lt_irrefl _)] at hel
        obtain ⟨da, dc, e1, e2, e3, e4⟩ := hel
        have hs1 := sumP_take_succ ps j hlt
        have hs2 := sumP_take_le ps (j + 1)
        have hs0 := sumP_nonneg (ps.take j)
        have hgj := hgb j hlt
        have hsz := hu.size
        have HST := fun w1 => PMid.step (w1 := w1) ho hlt (fun i hi => ⟨(hgb i hi).2.2.1, by have := (hgb i hi).2.2.2; omega⟩) (by omega) hinj e2
        have HS1 : Hid (sumP (ps.take (j + 1)) = sumP (ps.take j) + 1 + (ps.getD j (0, [])).2.length) := hs1
        have hbd : k + sumP (ps.take j) + 1 + (ps.getD j (0, [])).2.length ≤ 9223372036854775806 := by omega
        have e5 : Own8 (g j) (g j + 1) (wr.setCell ⟨b, off + j * 2, none⟩ (.int .i64 (k + sumP (ps.take j)))) (.slice da (ps.getD j (0, [])).2.length dc) (ps.getD j (0, [])).2 :=
          e4.kept (by simp) fun q q1 q2 q3 => Below.heap_setCell _ _ _ _ (by have := hgj.2.2.1; simp; omega)
        have hu1 : Upd lo hi w (wr.setCell ⟨b, off + j * 2, none⟩ (.int .i64 (k + sumP (ps.take j)))) := hu.setCell h1 h2 _
        have HSTH := fun w1 => (show Hid _ from HST w1)
        clear hs1 hs2 ho HST
        generalize hS : sumP (ps.take j) = S at *
        generalize hp : ps.getD j (0, []) = p at *
        obtain ⟨q, zs⟩ := p
        have HS : Hid (sumP (ps.take j) = S) := hS
        have HP : Hid (ps.getD j (0, []) = (q, zs)) := hp
        clear hS hp
        simp only at e1 e2 e4 e5 hbd
        go_wp2_with fail
        refine (markByteS_any (g j) (g j + 1) _ zs _ _ e5 (by omega) (by omega)).mono ?_
        rintro e w1 ⟨rfl, ho1, hv1⟩
        have hst := (HSTH w1).out hv1 ho1
        have hu2 : Upd lo hi w w1 := hu1.trans (hv1.wider (by omega) (by omega))
        clear HSTH ho1 hv1 hu1 e5 e4
        go_wp2
        go_roundw
        case rel => exact ⟨j + 1, by omega, by go_num, by rw [HS1.out]; simp only [Value.int.injEq, true_and]; omega, hst, hu2⟩
        case measure => simp [intOf]; omega
      · have hje : ps.length = j := by omega
        have HF : Hid (sumP (ps.take j) = sumP ps) := by rw [← hje, List.take_length]; rfl
        have hP : POwn lo hi wr (.slice (some ⟨b, off, none⟩) ps.length cap) (markP k ps) := by
          refine ⟨_, cap, by rw [markP_length], fun _ => ⟨b, off, rfl, h1, h2, by have := hu.size; omega, g, fun i hi => ?_, fun i j hi hj => ?_⟩⟩
          · rw [markP_length] at hi
            have h5 := ho i hi
            rw [if_pos (by omega)] at h5
            have h6 := hgb i hi
            exact ⟨h6.1, h6.2.1, h6.2.2.1, by have := hu.size; omega, h5⟩
          · rw [markP_length] at hi hj
            exact hinj i j hi hj
        clear hje ho
        go_wp2
        go_ret
        exact ⟨by rw [HF.out]; rfl, hP, hu⟩
  · have hz0 : ps = [] := List.eq_nil_of_length_eq_zero (by omega)
    subst hz0
    clear hc
    go_enter Try.func34, Try.ntmps34
    go_wp2
    go_loopw [1, 5] (fun q i wr => i = .int .i64 0 ∧ q = .int .i64 k ∧ w = wr) (fun _ _ _ => 0)
    case atStart => exact ⟨rfl, rfl, rfl⟩
    case round =>
      obtain ⟨rfl, rfl, rfl⟩ := hrel
      go_wp2
      go_ret
      exact ⟨by simp [sumP], POwn.empty _ _ _ _ _, Upd.refl _ _ _⟩

set_option maxHeartbeats 1000000 in
theorem heldPendingS_any (v : Value) (ps : List (Int × List Int)) (k : Int) (w : World) (hv : PRead w v (markP k ps)) (hk : 0 ≤ k) (hn : k + sumP ps ≤ 9223372036854775806) (hl : ps.length ≤ 281474976710656) :
    Calls Try.prog 35 #[v, .int .i64 k] w fun e w' => e = .returned (.int .i64 (k + sumP ps)) ∧ w = w' := by
  obtain ⟨a, cap, rfl, hc⟩ := hv
  rw [markP_length] at hc
  rw [markP_length]
  by_cases hz : 0 < ps.length
  · obtain ⟨b, off, rfl, hcell⟩ := hc hz
    clear hc
    go_enter Try.func35, Try.ntmps35
    go_wp2
    go_loop [1, 5] (fun q i => ∃ j : Nat, j ≤ ps.length ∧ i = .int .i64 j ∧ q = .int .i64 (k + sumP (ps.take j))) (fun _ i => ps.length - (intOf i).toNat)
    case atStart => exact ⟨0, Nat.zero_le _, rfl, by simp [sumP]⟩
    case round =>
      obtain ⟨j, hj, rfl, rfl⟩ := hrel
      by_cases hlt : j < ps.length
      · obtain ⟨da, dc, e1, e2, e4⟩ := hcell j hlt
        rw [markP_get k ps j hlt] at e1 e2 e4
        simp only [marks_length] at e1 e2 e4
        have hs1 := sumP_take_succ ps j hlt
        have hs2 := sumP_take_le ps (j + 1)
        have hs0 := sumP_nonneg (ps.take j)
        have HS1 : Hid (sumP (ps.take (j + 1)) = sumP (ps.take j) + 1 + (ps.getD j (0, [])).2.length) := hs1
        have hbd : k + sumP (ps.take j) + 1 + (ps.getD j (0, [])).2.length ≤ 9223372036854775806 := by omega
        clear hs1 hs2 hcell
        generalize sumP (ps.take j) = S at *
        generalize (ps.getD j (0, [])).2.length = n at *
        go_wp2_with fail
        refine (heldByteS_any _ _ n _ e4 (by omega) (by omega)).mono ?_
        rintro e w1 ⟨rfl, rfl⟩
        go_wp2
        go_round
        case rel => exact ⟨j + 1, by omega, by go_num, by rw [HS1.out]; simp only [Value.int.injEq, true_and]; omega⟩
        case measure => simp [intOf]; omega
      · have HF : Hid (sumP (ps.take j) = sumP ps) := by rw [List.take_of_length_le (by omega)]; rfl
        clear hcell
        go_wp2
        go_ret
        exact ⟨by rw [HF.out]; rfl, rfl⟩
  · have hz0 : ps = [] := List.eq_nil_of_length_eq_zero (by omega)
    subst hz0
    clear hc
    go_enter Try.func35, Try.ntmps35
    go_wp2
    go_loop [1, 5] (fun q i => i = .int .i64 0 ∧ q = .int .i64 k) (fun _ _ => 0)
    case atStart => exact ⟨rfl, rfl⟩
    case round =>
      obtain ⟨rfl, rfl⟩ := hrel
      go_wp2
      go_ret
      exact ⟨by simp [sumP], rfl⟩
end Go.Proofs.Ytbadedhliplkeaa
