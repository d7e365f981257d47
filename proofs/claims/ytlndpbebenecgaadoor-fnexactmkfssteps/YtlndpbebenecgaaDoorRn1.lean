import Derived.Test.YtlndpbebenecgaaDoorIn
import Derived.Deep.RegionWith
namespace Go.Proofs.YtlndpbebenecgaaDoor
open Go.RowKit

/-- the []Run value v reads in w as rs -/
def RRead (w : World) (v : Value) (rs : List (Int × Int × Int)) : Prop :=
  ∃ a cap, v = .slice a rs.length cap ∧ (0 < rs.length → ∃ b off, a = some ⟨b, off, none⟩ ∧ ∀ i, i < rs.length → w.cell? ⟨b, off + i * 3, none⟩ = some (.int .i64 (rs.getD i (0, 0, 0)).1) ∧ w.cell? ⟨b, off + i * 3 + 1, none⟩ = some (.int .i64 (rs.getD i (0, 0, 0)).2.1) ∧ w.cell? ⟨b, off + i * 3 + 2, none⟩ = some (.int .i64 (rs.getD i (0, 0, 0)).2.2))

theorem RRead.below {w w' : World} {v : Value} {rs : List (Int × Int × Int)} (h : RRead w v rs) (k : Below w.heap.size w w') : RRead w' v rs := by
  obtain ⟨a, cap, hv, hc⟩ := h
  refine ⟨a, cap, hv, fun hp => ?_⟩
  obtain ⟨b, off, ha, hcell⟩ := hc hp
  refine ⟨b, off, ha, fun i hi => ?_⟩
  obtain ⟨g1, g2, g3⟩ := hcell i hi
  have hb := World.block_lt_of_cell? _ _ g1
  exact ⟨(k.cell (p := ⟨b, off + i * 3, none⟩) hb).trans g1, (k.cell (p := ⟨b, off + i * 3 + 1, none⟩) hb).trans g2, (k.cell (p := ⟨b, off + i * 3 + 2, none⟩) hb).trans g3⟩

theorem RRead.empty (w : World) (a : Option Addr) (cap : Nat) : RRead w (.slice a 0 cap) [] := ⟨a, cap, rfl, fun h => by simp at h⟩

/-- and its cells lie in a block from lo up to hi and may be written -/
def ROwn (lo hi : Nat) (w : World) (v : Value) (rs : List (Int × Int × Int)) : Prop :=
  ∃ a cap, v = .slice a rs.length cap ∧ (0 < rs.length → ∃ b off, a = some ⟨b, off, none⟩ ∧ lo ≤ b ∧ b < hi ∧ b < w.heap.size ∧ (∀ j, w.frozen? ⟨b, j, none⟩ = false) ∧ ∀ i, i < rs.length → w.cell? ⟨b, off + i * 3, none⟩ = some (.int .i64 (rs.getD i (0, 0, 0)).1) ∧ w.cell? ⟨b, off + i * 3 + 1, none⟩ = some (.int .i64 (rs.getD i (0, 0, 0)).2.1) ∧ w.cell? ⟨b, off + i * 3 + 2, none⟩ = some (.int .i64 (rs.getD i (0, 0, 0)).2.2))

theorem ROwn.read {lo hi : Nat} {w : World} {v : Value} {rs : List (Int × Int × Int)} (h : ROwn lo hi w v rs) : RRead w v rs := by
  obtain ⟨a, cap, hv, hc⟩ := h
  refine ⟨a, cap, hv, fun hp => ?_⟩
  obtain ⟨b, off, ha, _, _, _, _, hcell⟩ := hc hp
  exact ⟨b, off, ha, hcell⟩

theorem ROwn.form {lo hi : Nat} {w : World} {v : Value} {rs : List (Int × Int × Int)} (h : ROwn lo hi w v rs) : ∃ a cap, v = .slice a rs.length cap := by
  obtain ⟨a, cap, hv, _⟩ := h
  exact ⟨a, cap, hv⟩

theorem ROwn.empty (lo hi : Nat) (w : World) (a : Option Addr) (cap : Nat) : ROwn lo hi w (.slice a 0 cap) [] := ⟨a, cap, rfl, fun h => by simp at h⟩

theorem ROwn.kept {lo hi : Nat} {w w' : World} {v : Value} {rs : List (Int × Int × Int)} (h : ROwn lo hi w v rs) (hs : w.heap.size ≤ w'.heap.size) (k : ∀ b, lo ≤ b → b < hi → b < w.heap.size → w'.heap[b]? = w.heap[b]?) : ROwn lo hi w' v rs := by
  obtain ⟨a, cap, hv, hc⟩ := h
  refine ⟨a, cap, hv, fun hp => ?_⟩
  obtain ⟨b, off, ha, h1, h2, h3, h4, hcell⟩ := hc hp
  have e := k b h1 h2 h3
  refine ⟨b, off, ha, h1, h2, by omega, fun j => ?_, fun i hi => ?_⟩
  · rw [World.frozen?_of_block (w := w) (w' := w') (a := ⟨b, j, none⟩) e]; exact h4 j
  · rw [World.cell?_of_block (w := w) (w' := w') (a := ⟨b, off + i * 3, none⟩) e, World.cell?_of_block (w := w) (w' := w') (a := ⟨b, off + i * 3 + 1, none⟩) e, World.cell?_of_block (w := w) (w' := w') (a := ⟨b, off + i * 3 + 2, none⟩) e]
    exact hcell i hi

theorem ROwn.upd {lo hi lo' hi' : Nat} {w w' : World} {v : Value} {rs : List (Int × Int × Int)} (h : ROwn lo hi w v rs) (k : Upd lo' hi' w w') (hd : hi ≤ lo' ∨ hi' ≤ lo) : ROwn lo hi w' v rs :=
  h.kept k.size fun b h1 h2 h3 => k.block b h3 (by omega)

theorem ROwn.below {lo hi : Nat} {w w' : World} {v : Value} {rs : List (Int × Int × Int)} (h : ROwn lo hi w v rs) (k : Below w.heap.size w w') : ROwn lo hi w' v rs :=
  h.kept k.size fun b _ _ h3 => k.block b h3

theorem ROwn.wider {lo hi lo' hi' : Nat} {w : World} {v : Value} {rs : List (Int × Int × Int)} (h : ROwn lo hi w v rs) (h1 : lo' ≤ lo) (h2 : hi ≤ hi') : ROwn lo' hi' w v rs := by
  obtain ⟨a, cap, hv, hc⟩ := h
  refine ⟨a, cap, hv, fun hp => ?_⟩
  obtain ⟨b, off, ha, g1, g2, g3, hcell⟩ := hc hp
  exact ⟨b, off, ha, by omega, by omega, g3, hcell⟩

/-- v is a row of the call's own that holds the runs rs -/
def flatR (rs : List (Int × Int × Int)) : List Value := rs.flatMap fun r => [.int .i64 r.1, .int .i64 r.2.1, .int .i64 r.2.2]
def RRow (base : Nat) (w : World) (v : Value) (rs : List (Int × Int × Int)) : Prop := w.ownsRow base 83 3 v rs.length (flatR rs)

theorem flatR_length (rs : List (Int × Int × Int)) : (flatR rs).length = rs.length * 3 := by
  induction rs with
  | nil => rfl
  | cons r l ih => simp only [flatR, List.flatMap_cons, List.length_append, List.length_cons, List.length_nil] at ih ⊢; omega
theorem flatR_append (rs ss : List (Int × Int × Int)) : flatR (rs ++ ss) = flatR rs ++ flatR ss := by simp [flatR]
theorem flatR_get (rs : List (Int × Int × Int)) (i : Nat) (h : i < rs.length) : (flatR rs)[i * 3]? = some (.int .i64 (rs.getD i (0, 0, 0)).1) ∧ (flatR rs)[i * 3 + 1]? = some (.int .i64 (rs.getD i (0, 0, 0)).2.1) ∧ (flatR rs)[i * 3 + 2]? = some (.int .i64 (rs.getD i (0, 0, 0)).2.2) := by
  induction rs generalizing i with
  | nil => simp at h
  | cons r l ih =>
    match i with
    | 0 => simp [flatR]
    | i + 1 =>
      have := ih i (by simpa using h)
      have e : flatR (r :: l) = [.int .i64 r.1, .int .i64 r.2.1, .int .i64 r.2.2] ++ flatR l := by simp [flatR]
      rw [e, List.getElem?_append_right (by simp; omega), List.getElem?_append_right (by simp; omega), List.getElem?_append_right (by simp; omega)]
      simp only [List.length_cons, List.length_nil, List.getD_cons_succ]
      rw [show (i + 1) * 3 - (0 + 1 + 1 + 1) = i * 3 by omega, show (i + 1) * 3 + 1 - (0 + 1 + 1 + 1) = i * 3 + 1 by omega, show (i + 1) * 3 + 2 - (0 + 1 + 1 + 1) = i * 3 + 2 by omega]
      exact this

theorem RRow.shape {base : Nat} {w : World} {v : Value} {rs : List (Int × Int × Int)} (h : RRow base w v rs) : ∃ a cap, v = .slice a rs.length cap := by
  rcases h.2 with ⟨hv, hn⟩ | ⟨g, cap, cur, hv, _⟩
  · exact ⟨none, 0, by rw [hv, hn]⟩
  · exact ⟨_, _, hv⟩
theorem RRow.start (base : Nat) (w : World) : RRow base w (.slice none 0 0) [] := World.ownsRow_nil w base 83 3
theorem RRow.lit (base : Nat) (w : World) (hb : base ≤ w.heap.size) (g : Nat) (hg : g = w.heap.size) : RRow base (w.alloc (.cells #[] 83)) (.slice (some ⟨g, 0, none⟩) 0 0) [] := by
  subst hg; exact World.ownsRow_lit (e := 83) (size := 3) w #[] 0 hb (by decide) rfl
theorem RRow.own {base : Nat} {w : World} {v : Value} {rs : List (Int × Int × Int)} (h : RRow base w v rs) : ROwn base w.heap.size w v rs := by
  obtain ⟨a, cap, hf⟩ := h.shape
  refine ⟨a, cap, hf, fun hp => ?_⟩
  have hlt := h.lt
  rcases h.2 with ⟨_, e⟩ | ⟨b, cap', cur, hv, e1, e2, e3⟩
  · omega
  · subst hv
    have hca := h.cellAt
    have hfr := h.frozenAt
    simp only [Value.slice.injEq] at hf
    obtain ⟨rfl, _, rfl⟩ := hf
    refine ⟨b, 0, rfl, (hlt b rfl).1, (hlt b rfl).2, (hlt b rfl).2, hfr, fun i hi => ?_⟩
    obtain ⟨g1, g2, g3⟩ := flatR_get rs i hi
    rw [Nat.zero_add, hca (i * 3) (by omega), hca (i * 3 + 1) (by omega), hca (i * 3 + 2) (by omega)]
    exact ⟨g1, g2, g3⟩

set_option maxHeartbeats 400000 in
theorem eqRun_same (x y z : Int) (w : World) :
    Calls Tryd.prog 84 #[.agg #[.int .i64 x, .int .i64 y, .int .i64 z], .agg #[.int .i64 x, .int .i64 y, .int .i64 z]] w fun e w' => e = .returned (.bool true) ∧ Below w.heap.size w w' := by
  have h1 : (x != x) = false := by simp
  have h2 : (y != y) = false := by simp
  have h3 : (z != z) = false := by simp
  have hb : Below w.heap.size w ((w.alloc (.cells #[.int .i64 x, .int .i64 y, .int .i64 z] 83)).alloc (.cells #[.int .i64 x, .int .i64 y, .int .i64 z] 83)) := ((Below.refl _ _).alloc (Nat.le_refl _) _).alloc (by simp) _
  go_enter Tryd.func84, Tryd.ntmps84
  go_wp2
  go_ret
  exact ⟨rfl, hb⟩

set_option maxHeartbeats 1000000 in
theorem eqRunS_own (v v' : Value) (rs : List (Int × Int × Int)) (w : World) (hv : RRead w v rs) (hv' : RRead w v' rs) (hn : rs.length ≤ 8589934592) :
    Calls Tryd.prog 54 #[v, v'] w fun e w' => e = .returned (.bool true) ∧ Below w.heap.size w w' := by
  obtain ⟨a, cap, rfl, hc⟩ := hv
  obtain ⟨a', cap', rfl, hc'⟩ := hv'
  by_cases hz : 0 < rs.length
  · obtain ⟨b, off, rfl, hcell⟩ := hc hz
    obtain ⟨b', off', rfl, hcell'⟩ := hc' hz
    have heq : ((rs.length : Int) != (rs.length : Int)) = false := by simp
    clear hc hc'
    go_enter Tryd.func54, Tryd.ntmps54
    go_wp2
    go_loopw [5] (fun i wr => ∃ k : Nat, k ≤ rs.length ∧ i = .int .i64 k ∧ Below w.heap.size w wr) (fun i _ => rs.length - (intOf i).toNat)
    case atStart => exact ⟨0, Nat.zero_le _, rfl, Below.refl _ _⟩
    case round =>
      obtain ⟨k, hk, rfl, hb⟩ := hrel
      by_cases hlt : k < rs.length
      · obtain ⟨g1, g2, g3⟩ := hcell k hlt
        obtain ⟨g1', g2', g3'⟩ := hcell' k hlt
        have hbw := World.block_lt_of_cell? _ _ g1
        have hbw' := World.block_lt_of_cell? _ _ g1'
        rw [← hb.cell (p := ⟨b, off + k * 3, none⟩) hbw] at g1
        rw [← hb.cell (p := ⟨b, off + k * 3 + 1, none⟩) hbw] at g2
        rw [← hb.cell (p := ⟨b, off + k * 3 + 2, none⟩) hbw] at g3
        rw [← hb.cell (p := ⟨b', off' + k * 3, none⟩) hbw'] at g1'
        rw [← hb.cell (p := ⟨b', off' + k * 3 + 1, none⟩) hbw'] at g2'
        rw [← hb.cell (p := ⟨b', off' + k * 3 + 2, none⟩) hbw'] at g3'
        have hi : (k : Int) < (rs.length : Int) := by omega
        clear hcell hcell'
        generalize rs.getD k (0, 0, 0) = p at g1 g2 g3 g1' g2' g3'
        obtain ⟨x, y, z⟩ := p
        go_wp2
        go_region_with (go_at_call 84; refine (eqRun_same x y z _).mono ?_; rintro e w1 ⟨rfl, hb1⟩)
        all_goals
          have hb2 : Below w.heap.size w w1 := hb.drew.trans (hb1.mono hb.size)
          clear g1 g2 g3 g1' g2' g3' hb1 hb
          go_wp2
          go_roundw
          case rel => exact ⟨k + 1, by omega, by go_num, hb2⟩
          case measure => simp [intOf]; omega
      · go_wp2
        go_ret
        exact ⟨rfl, hb⟩
  · have hz0 : rs = [] := List.eq_nil_of_length_eq_zero (by omega)
    subst hz0
    clear hc hc'
    go_enter Tryd.func54, Tryd.ntmps54
    go_wp2
    go_loopw [5] (fun i wr => i = .int .i64 0 ∧ wr = w) (fun _ _ => 0)
    case atStart => exact ⟨rfl, rfl⟩
    case round =>
      obtain ⟨rfl, rfl⟩ := hrel
      go_wp2
      go_ret
      exact ⟨rfl, Below.refl _ _⟩
end Go.Proofs.YtlndpbebenecgaaDoor
