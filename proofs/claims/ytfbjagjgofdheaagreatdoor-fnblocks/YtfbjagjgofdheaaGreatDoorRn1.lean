import Derived.Test.YtfbjagjgofdheaaGreatDoorEr1
import Derived.Deep.RegionWith
namespace Go.Proofs.YtfbjagjgofdheaaGreatDoor
open Go.RowKit

/-- the []Run value v reads in w as rs -/
def RRead (w : World) (v : Value) (rs : List (Int × Int × Int)) : Prop :=
  ∃ a cap, v = .slice a rs.length cap ∧ (0 < rs.length → ∃ b off, a = some ⟨b, off, none⟩ ∧ ∀ i, i < rs.length → w.cell? ⟨b, off + i * 3, none⟩ = some (.int .i64 (rs.getD i (0, 0, 0)).1) ∧ w.cell? ⟨b, off + i * 3 + 1, none⟩ = some (.int .i64 (rs.getD i (0, 0, 0)).2.1) ∧ w.cell? ⟨b, off + i * 3 + 2, none⟩ = some (.int .i64 (rs.getD i (0, 0, 0)).2.2))

theorem RRead.below {w w' : World} {v : Value} {rs : List (Int × Int × Int)} (h : RRead w v rs) (k : Below w.heap.size w w') : RRead w' v rs := by
  obtain ⟨a, cap, hv, hc⟩ := h
  refine ⟨a, cap, hv, fun hp => ?_⟩
  obtain ⟨b, off, ha, hcell⟩ := hc hp
  refine ⟨b, off, ha, fun i hi => ?_⟩
  obtain ⟨g1, g2, g3⟩ := hcell i hi
  have hb := World.block_lt_of_cell? _ _ g1
  exact ⟨(k.cell (p := ⟨b, off + i * 3, none⟩) hb).trans g1, (k.cell (p := ⟨b, off + i * 3 + 1, none⟩) hb).trans g2, (k.cell (p := ⟨b, off + i * 3 + 2, none⟩) hb).trans g3⟩

theorem RRead.empty (w : World) (a : Option Addr) (cap : Nat) : RRead w (.slice a 0 cap) [] := ⟨a, cap, rfl, fun h => by simp at h⟩

/-- and its cells lie in a block from lo up to hi and may be written -/
def ROwn (lo hi : Nat) (w : World) (v : Value) (rs : List (Int × Int × Int)) : Prop :=
  ∃ a cap, v = .slice a rs.length cap ∧ (0 < rs.length → ∃ b off, a = some ⟨b, off, none⟩ ∧ lo ≤ b ∧ b < hi ∧ b < w.heap.size ∧ (∀ j, w.frozen? ⟨b, j, none⟩ = false) ∧ ∀ i, i < rs.length → w.cell? ⟨b, off + i * 3, none⟩ = some (.int .i64 (rs.getD i (0, 0, 0)).1) ∧ w.cell? ⟨b, off + i * 3 + 1, none⟩ = some (.int .i64 (rs.getD i (0, 0, 0)).2.1) ∧ w.cell? ⟨b, off + i * 3 + 2, none⟩ = some (.int .i64 (rs.getD i (0, 0, 0)).2.2))

theorem ROwn.read {lo hi : Nat} {w : World} {v : Value} {rs : List (Int × Int × Int)} (h : ROwn lo hi w v rs) : RRead w v rs := by
  obtain ⟨a, cap, hv, hc⟩ := h
  refine ⟨a, cap, hv, fun hp => ?_⟩
  obtain ⟨b, off, ha, _, _, _, _, hcell⟩ := hc hp
  exact ⟨b, off, ha, hcell⟩

theorem ROwn.form {lo hi : Nat} {w : World} {v : Value} {rs : List (Int × Int × Int)} (h : ROwn lo hi w v rs) : ∃ a cap, v = .slice a rs.length cap := by
  obtain ⟨a, cap, hv, _⟩ := h
  exact ⟨a, cap, hv⟩

theorem ROwn.empty (lo hi : Nat) (w : World) (a : Option Addr) (cap : Nat) : ROwn lo hi w (.slice a 0 cap) [] := ⟨a, cap, rfl, fun h => by simp at h⟩

theorem ROwn.kept {lo hi : Nat} {w w' : World} {v : Value} {rs : List (Int × Int × Int)} (h : ROwn lo hi w v rs) (hs : w.heap.size ≤ w'.heap.size) (k : ∀ b, lo ≤ b → b < hi → b < w.heap.size → w'.heap[b]? = w.heap[b]?) : ROwn lo hi w' v rs := by
  obtain ⟨a, cap, hv, hc⟩ := h
  refine ⟨a, cap, hv, fun hp => ?_⟩
  obtain ⟨b, off, ha, h1, h2, h3, h4, hcell⟩ := hc hp
  have e := k b h1 h2 h3
  refine ⟨b, off, ha, h1, h2, by omega, fun j => ?_, fun i hi => ?_⟩
  · rw [World.frozen?_of_block (w := w) (w' := w') (a := ⟨b, j, none⟩) e]; exact h4 j
  · rw [World.cell?_of_block (w := w) (w' := w') (a := ⟨b, off + i * 3, none⟩) e, World.cell?_of_block (w := w) (w' := w') (a := ⟨b, off + i * 3 + 1, none⟩) e, World.cell?_of_block (w := w) (w' := w') (a := ⟨b, off + i * 3 + 2, none⟩) e]
    exact hcell i hi

theorem ROwn.upd {lo hi lo' hi' : Nat} {w w' : World} {v : Value} {rs : List (Int × Int × Int)} (h : ROwn lo hi w v rs) (k : Upd lo' hi' w w') (hd : hi ≤ lo' ∨ hi' ≤ lo) : ROwn lo hi w' v rs :=
  h.kept k.size fun b h1 h2 h3 => k.block b h3 (by omega)

theorem ROwn.below {lo hi : Nat} {w w' : World} {v : Value} {rs : List (Int × Int × Int)} (h : ROwn lo hi w v rs) (k : Below w.heap.size w w') : ROwn lo hi w' v rs :=
  h.kept k.size fun b _ _ h3 => k.block b h3

theorem ROwn.wider {lo hi lo' hi' : Nat} {w : World} {v : Value} {rs : List (Int × Int × Int)} (h : ROwn lo hi w v rs) (h1 : lo' ≤ lo) (h2 : hi ≤ hi') : ROwn lo' hi' w v rs := by
  obtain ⟨a, cap, hv, hc⟩ := h
  refine ⟨a, cap, hv, fun hp => ?_⟩
  obtain ⟨b, off, ha, g1, g2, g3, hcell⟩ := hc hp
  exact ⟨b, off, ha, by omega, by omega, g3, hcell⟩

/-- v is a row of the call's own that holds the runs rs -/
def flatR (rs : List (Int × Int × Int)) : List Value := rs.flatMap fun r => [.int .i64 r.1, .int .i64 r.2.1, .int .i64 r.2.2]
def RRow (base : Nat) (w : World) (v : Value) (rs : List (Int × Int × Int)) : Prop := w.ownsRow base 78 3 v rs.length (flatR rs)

theorem flatR_length (rs : List (Int × Int × Int)) : (flatR rs).length = rs.length * 3 := by
  induction rs with
  | nil => rfl
  | cons r l ih => simp only [flatR, List.flatMap_cons, List.length_append, List.length_cons, List.length_nil] at ih ⊢; omega
theorem flatR_append (rs ss : List (Int × Int × Int)) : flatR (rs ++ ss) = flatR rs ++ flatR ss := by simp [flatR]
theorem flatR_get (rs : List (Int × Int × Int)) (i : Nat) (h : i < rs.length) : (flatR rs)[i * 3]? = some (.int .i64 (rs.getD i (0, 0, 0)).1) ∧ (flatR rs)[i * 3 + 1]? = some (.int .i64 (rs.getD i (0, 0, 0)).2.1) ∧ (flatR rs)[i * 3 + 2]? = some (.int .i64 (rs.getD i (0, 0, 0)).2.2) := by
  induction rs generalizing i with
  | nil => simp at h
  | cons r l ih =>
    match i with
    | 0 => simp [flatR]
    | i + 1 =>
      have := ih i (by simpa using h)
      have e : flatR (r :: l) = [.int .i64 r.1, .int .i64 r.2.1, .int .i64 r.2.2] ++ flatR l := by simp [flatR]
      rw [e, List.getElem?_append_right (by simp; omega), List.getElem?_append_right (by simp; omega), List.getElem?_append_right (by simp; omega)]
      simp only [List.length_cons, List.length_nil, List.getD_cons_succ]
      rw [show (i + 1) * 3 - (0 + 1 + 1 + 1) = i * 3 by omega, show (i + 1) * 3 + 1 - (0 + 1 + 1 + 1) = i * 3 + 1 by omega, show (i + 1) * 3 + 2 - (0 + 1 + 1 + 1) = i * 3 + 2 by omega]
      exact this

theorem RRow.shape {base : Nat} {w : World} {v : Value} {rs : List (Int × Int × Int)} (h : RRow base w v rs) : ∃ a cap, v = .slice a rs.length cap := by
  rcases h.2 with ⟨hv, hn⟩ | ⟨g, cap, cur, hv, _⟩
  · exact ⟨none, 0, by rw [hv, hn]⟩
  · exact ⟨_, _, hv⟩
theorem RRow.start (base : Nat) (w : World) : RRow base w (.slice none 0 0) [] := World.ownsRow_nil w base 78 3
theorem RRow.lit (base : Nat) (w : World) (hb : base ≤ w.heap.size) (g : Nat) (hg : g = w.heap.size) : RRow base (w.alloc (.cells #[] 78)) (.slice (some ⟨g, 0, none⟩) 0 0) [] := by
  subst hg; exact World.ownsRow_lit (e := 78) (size := 3) w #[] 0 hb (by decide) rfl
theorem RRow.own {base : Nat} {w : World} {v : Value} {rs : List (Int × Int × Int)} (h : RRow base w v rs) : ROwn base w.heap.size w v rs := by
  obtain ⟨a, cap, hf⟩ := h.shape
  refine ⟨a, cap, hf, fun hp => ?_⟩
  have hlt := h.lt
  rcases h.2 with ⟨_, e⟩ | ⟨b, cap', cur, hv, e1, e2, e3⟩
  · omega
  · subst hv
    have hca := h.cellAt
    have hfr := h.frozenAt
    simp only [Value.slice.injEq] at hf
    obtain ⟨rfl, _, rfl⟩ := hf
    refine ⟨b, 0, rfl, (hlt b rfl).1, (hlt b rfl).2, (hlt b rfl).2, hfr, fun i hi => ?_⟩
    obtain ⟨g1, g2, g3⟩ := flatR_get rs i hi
    rw [Nat.zero_add, hca (i * 3) (by omega), hca (i * 3 + 1) (by omega), hca (i * 3 + 2) (by omega)]
    exact ⟨g1, g2, g3⟩

end Go.Proofs.YtfbjagjgofdheaaGreatDoor

namespace Go.Proofs.YtfbjagjgofdheaaGreatDoor
open Go.RowKit

theorem ROwn.stored {lo hi : Nat} {w : World} {b off n cap : Nat} {rs : List (Int × Int × Int)} (h : ROwn lo hi w (.slice (some ⟨b, off, none⟩) n cap) rs) (j : Nat) (hj : j < n) (x y z : Int) :
    ROwn lo hi (((w.setCell ⟨b, off + j * 3, none⟩ (.int .i64 x)).setCell ⟨b, off + j * 3 + 1, none⟩ (.int .i64 y)).setCell ⟨b, off + j * 3 + 2, none⟩ (.int .i64 z)) (.slice (some ⟨b, off, none⟩) n cap) (rs.set j (x, y, z)) ∧
      Upd lo hi w (((w.setCell ⟨b, off + j * 3, none⟩ (.int .i64 x)).setCell ⟨b, off + j * 3 + 1, none⟩ (.int .i64 y)).setCell ⟨b, off + j * 3 + 2, none⟩ (.int .i64 z)) := by
  obtain ⟨a, cap', hv, hc⟩ := h
  simp only [Value.slice.injEq] at hv
  obtain ⟨rfl, rfl, rfl⟩ := hv
  obtain ⟨b', off', ha, h1, h2, h3, h4, hcell⟩ := hc (by omega)
  simp only [Option.some.injEq, Addr.mk.injEq, and_true] at ha
  obtain ⟨rfl, rfl⟩ := ha
  refine ⟨⟨_, _, by rw [List.length_set], fun _ => ⟨b, off, rfl, h1, h2, by simpa using h3, fun j => by simpa using h4 j, fun i hi => ?_⟩⟩, (((Upd.refl _ _ _).setCell (p := ⟨b, off + j * 3, none⟩) h1 h2 _).setCell (p := ⟨b, off + j * 3 + 1, none⟩) h1 h2 _).setCell (p := ⟨b, off + j * 3 + 2, none⟩) h1 h2 _⟩
  rw [List.length_set] at hi
  obtain ⟨g1, g2, g3⟩ := hcell i hi
  simp only [List.getD_eq_getElem?_getD] at g1 g2 g3 ⊢
  rw [List.getElem?_set]
  by_cases hij : j = i
  · subst hij
    rw [if_pos rfl, if_pos hi]
    have n12 : (⟨b, off + j * 3 + 1, none⟩ : Addr) ≠ ⟨b, off + j * 3, none⟩ := by simp
    have n13 : (⟨b, off + j * 3 + 2, none⟩ : Addr) ≠ ⟨b, off + j * 3, none⟩ := by simp
    have n23 : (⟨b, off + j * 3 + 2, none⟩ : Addr) ≠ ⟨b, off + j * 3 + 1, none⟩ := by simp
    refine ⟨?_, ?_, ?_⟩
    · rw [World.cell?_setCell_other _ _ _ _ n13, World.cell?_setCell_other _ _ _ _ n12, World.cell?_setCell_same _ _ _ g1]; rfl
    · rw [World.cell?_setCell_other _ _ _ _ n23, World.cell?_setCell_same _ _ _ ((World.cell?_setCell_other _ _ _ _ (Ne.symm n12)).trans g2)]; rfl
    · rw [World.cell?_setCell_same _ _ _ ((World.cell?_setCell_other _ _ _ _ (Ne.symm n23)).trans ((World.cell?_setCell_other _ _ _ _ (Ne.symm n13)).trans g3))]; rfl
  · rw [if_neg hij]
    have hn : ∀ p q, p < 3 → q < 3 → (⟨b, off + i * 3 + p, none⟩ : Addr) ≠ ⟨b, off + j * 3 + q, none⟩ := fun p q hp hq hh => by simp only [Addr.mk.injEq] at hh; omega
    have m1 := hn 0 0 (by omega) (by omega); have m2 := hn 0 1 (by omega) (by omega); have m3 := hn 0 2 (by omega) (by omega)
    have m4 := hn 1 0 (by omega) (by omega); have m5 := hn 1 1 (by omega) (by omega); have m6 := hn 1 2 (by omega) (by omega)
    have m7 := hn 2 0 (by omega) (by omega); have m8 := hn 2 1 (by omega) (by omega); have m9 := hn 2 2 (by omega) (by omega)
    simp only [Nat.add_zero] at m1 m2 m3 m4 m7
    refine ⟨?_, ?_, ?_⟩
    · rw [World.cell?_setCell_other _ _ _ _ (Ne.symm m3), World.cell?_setCell_other _ _ _ _ (Ne.symm m2), World.cell?_setCell_other _ _ _ _ (Ne.symm m1), g1]
    · rw [World.cell?_setCell_other _ _ _ _ (Ne.symm m6), World.cell?_setCell_other _ _ _ _ (Ne.symm m5), World.cell?_setCell_other _ _ _ _ (Ne.symm m4), g2]
    · rw [World.cell?_setCell_other _ _ _ _ (Ne.symm m9), World.cell?_setCell_other _ _ _ _ (Ne.symm m8), World.cell?_setCell_other _ _ _ _ (Ne.symm m7), g3]

/-- what a mark from k on leaves in n runs -/
def mk3 (k : Int) (n : Nat) : List (Int × Int × Int) := (List.range n).map fun (i : Nat) => (k + 3 * (i : Int), k + 3 * (i : Int) + 1, k + 3 * (i : Int) + 1 + 1)
theorem mk3_length (k : Int) (n : Nat) : (mk3 k n).length = n := by simp [mk3]
theorem mk3_get (k : Int) (n i : Nat) (h : i < n) : (mk3 k n).getD i (0, 0, 0) = (k + 3 * (i : Int), k + 3 * (i : Int) + 1, k + 3 * (i : Int) + 1 + 1) := by simp [mk3, h]
def mkd3 (k : Int) (rs : List (Int × Int × Int)) (j : Nat) : List (Int × Int × Int) := mk3 k j ++ rs.drop j
theorem mkd3_zero (k : Int) (rs : List (Int × Int × Int)) : mkd3 k rs 0 = rs := by simp [mkd3, mk3]
theorem mkd3_end (k : Int) (rs : List (Int × Int × Int)) : mkd3 k rs rs.length = mk3 k rs.length := by simp [mkd3]
theorem mkd3_length (k : Int) (rs : List (Int × Int × Int)) (j : Nat) (h : j ≤ rs.length) : (mkd3 k rs j).length = rs.length := by simp [mkd3, mk3_length]; omega
theorem mkd3_step (k : Int) (rs : List (Int × Int × Int)) (j : Nat) (h : j < rs.length) : (mkd3 k rs j).set j (k + 3 * (j : Int), k + 3 * (j : Int) + 1, k + 3 * (j : Int) + 1 + 1) = mkd3 k rs (j + 1) := by
  unfold mkd3
  rw [List.set_append_right _ _ (by rw [mk3_length]; omega), mk3_length, Nat.sub_self, List.drop_eq_getElem_cons h, List.set_cons_zero]
  simp [mk3, List.range_succ]

end Go.Proofs.YtfbjagjgofdheaaGreatDoor

namespace Go.Proofs.YtfbjagjgofdheaaGreatDoor
open Go.RowKit

theorem infoRun' : (Tryz.prog.info? 78).map (fun i => (i.zero, i.size, i.bytes)) = some (some (.agg #[.int .i64 0, .int .i64 0, .int .i64 0]), 3, 24) := by kernel_rfl

/-- the first k runs laid, then noughts -/
def rnP (rs : List (Int × Int × Int)) (k : Nat) : List (Int × Int × Int) := rs.take k ++ List.replicate (rs.length - k) (0, 0, 0)
theorem rnP_length (rs : List (Int × Int × Int)) (k : Nat) (h : k ≤ rs.length) : (rnP rs k).length = rs.length := by simp [rnP]; omega
theorem rnP_zero (rs : List (Int × Int × Int)) : rnP rs 0 = List.replicate rs.length (0, 0, 0) := by simp [rnP]
theorem rnP_end (rs : List (Int × Int × Int)) : rnP rs rs.length = rs := by simp [rnP]
theorem rnP_step (rs : List (Int × Int × Int)) (k : Nat) (h : k < rs.length) : (rnP rs k).set k (rs.getD k (0, 0, 0)) = rnP rs (k + 1) := by
  unfold rnP
  have hl : (rs.take k).length = k := by simp; omega
  rw [List.set_append_right _ _ (by omega), hl, Nat.sub_self, show rs.length - k = (rs.length - (k + 1)) + 1 by omega, List.replicate_succ, List.set_cons_zero, List.take_succ_eq_append_getElem h]
  simp only [List.getD_eq_getElem?_getD, List.getElem?_eq_getElem h, Option.getD_some, List.append_assoc, List.cons_append, List.nil_append]

theorem madeRuns (n : Nat) (hn : n ≤ 1048576) (w : World) : ∃ cur, (Instr.makeSlice 32 (.int .i64 (n : Int)) (.int .i64 (n : Int))).run Tryz.prog w = .ok (.slice (some ⟨w.heap.size, 0, none⟩) n n) (w.alloc (.cells cur 78)) ∧
    ROwn w.heap.size (w.heap.size + 1) (w.alloc (.cells cur 78)) (.slice (some ⟨w.heap.size, 0, none⟩) n n) (List.replicate n (0, 0, 0)) := by
  obtain ⟨i, hi, hzz⟩ := Option.map_eq_some_iff.1 infoRun'
  simp only [Prod.mk.injEq] at hzz
  obtain ⟨hz, hs, hby⟩ := hzz
  have hr := run_make (P := Tryz.prog) w 32 78 i _ Tryz.underlying32 hi hz .i64 .i64 n n (by omega) (Int.le_refl _) (by rw [hby]; omega) (by omega)
  simp only [Int.toNat_natCast, hs] at hr
  refine ⟨_, hr, ?_⟩
  refine ⟨_, n, by simp, fun hp => ⟨w.heap.size, 0, rfl, Nat.le_refl _, Nat.lt_succ_self _, by simp, fun j => World.frozen?_alloc_at _ _ _ _ rfl, fun i hi => ?_⟩⟩
  simp only [List.length_replicate] at hi
  rw [Nat.zero_add, World.cell?_alloc_at _ _ _ _ rfl, World.cell?_alloc_at _ _ _ _ rfl, World.cell?_alloc_at _ _ _ _ rfl]
  have e : (List.replicate n ((0, 0, 0) : Int × Int × Int)).getD i (0, 0, 0) = (0, 0, 0) := by simp [hi]
  rw [e]
  have m0 : i * 3 < n * 3 := by omega
  have m1 : i * 3 + 1 < n * 3 := by omega
  have m2 : i * 3 + 2 < n * 3 := by omega
  have q1 : (i * 3 + 1) % 3 = 1 := by omega
  have q2 : (i * 3 + 2) % 3 = 2 := by omega
  simp [madeCells, Value.cells, m0, m1, m2, q1, q2]

end Go.Proofs.YtfbjagjgofdheaaGreatDoor

namespace Go.Proofs.YtfbjagjgofdheaaGreatDoor
open Go.RowKit

abbrev R3 := Int × Int × Int
/-- a run within its bounds -/
def inR (r : R3) : Prop := (2 ≤ r.1 ∧ r.1 ≤ 512) ∧ (1 ≤ r.2.1 ∧ r.2.1 ≤ 512) ∧ r.1 + r.2.1 ≤ 512 ∧ (1 ≤ r.2.2 ∧ r.2.2 ≤ 65535)
/-- r may follow p -/
def fol (p r : R3) : Prop := r.1 > p.1 + p.2.1 ∨ r.1 = p.1 + p.2.1 ∧ r.2.2 ≠ p.2.2
/-- the two, reckoned -/
def inRb (r : R3) : Bool := decide ((2 ≤ r.1 ∧ r.1 ≤ 512) ∧ (1 ≤ r.2.1 ∧ r.2.1 ≤ 512) ∧ r.1 + r.2.1 ≤ 512 ∧ (1 ≤ r.2.2 ∧ r.2.2 ≤ 65535))
def folb (p r : R3) : Bool := decide (r.1 > p.1 + p.2.1 ∨ r.1 = p.1 + p.2.1 ∧ r.2.2 ≠ p.2.2)
theorem inRb_t {r : R3} (h : inR r) : inRb r = true := decide_eq_true h
theorem inRb_f {r : R3} (h : ¬ inR r) : inRb r = false := decide_eq_false h
theorem folb_t {p r : R3} (h : fol p r) : folb p r = true := decide_eq_true h
theorem folb_f {p r : R3} (h : ¬ fol p r) : folb p r = false := decide_eq_false h
theorem inRb_of {r : R3} (h : inRb r = true) : inR r := by simpa [inRb, inR] using h
theorem folb_of {p r : R3} (h : folb p r = true) : fol p r := by simpa [folb, fol] using h

set_option maxHeartbeats 1000000 in
theorem inBounds_any (x y z : Int) (w : World) :
    Calls Tryz.prog 99 #[.agg #[.int .i64 x, .int .i64 y, .int .i64 z]] w fun e w' => e = .returned (.bool (inRb (x, y, z))) ∧ Below w.heap.size w w' := by
  have hB : Below w.heap.size w (w.alloc (.cells #[.int .i64 x, .int .i64 y, .int .i64 z] 78)) := (Below.refl _ _).alloc (Nat.le_refl _) _
  have HD : Hid (inRb (x, y, z) = decide ((2 ≤ x ∧ x ≤ 512) ∧ (1 ≤ y ∧ y ≤ 512) ∧ x + y ≤ 512 ∧ (1 ≤ z ∧ z ≤ 65535))) := rfl
  go_enter Tryz.func99, Tryz.ntmps99
  go_wp2_with fail
  refine (within_any _ _ _ _).mono ?_
  rintro e w1 ⟨rfl, rfl⟩
  by_cases h1 : 2 ≤ x ∧ x ≤ 512
  · rw [inB_true h1]
    go_wp2_with fail
    refine (within_any _ _ _ _).mono ?_
    rintro e w1 ⟨rfl, rfl⟩
    by_cases h2 : 1 ≤ y ∧ y ≤ 512
    · rw [inB_true h2]
      by_cases h3 : x + y ≤ 512
      · go_wp2_with fail
        refine (within_any _ _ _ _).mono ?_
        rintro e w1 ⟨rfl, rfl⟩
        by_cases h4 : 1 ≤ z ∧ z ≤ 65535
        · rw [inB_true h4]
          have HE : Hid (inRb (x, y, z) = true) := by rw [HD.out]; exact decide_eq_true ⟨h1, h2, h3, h4⟩
          go_wp2
          go_ret
          exact ⟨by rw [HE.out]; rfl, hB⟩
        · rw [inB_false h4]
          have HE : Hid (inRb (x, y, z) = false) := by rw [HD.out]; exact decide_eq_false fun h => h4 h.2.2.2
          go_wp2
          go_ret
          exact ⟨by rw [HE.out]; rfl, hB⟩
      · have HE : Hid (inRb (x, y, z) = false) := by rw [HD.out]; exact decide_eq_false fun h => h3 h.2.2.1
        go_wp2
        go_ret
        exact ⟨by rw [HE.out]; rfl, hB⟩
    · rw [inB_false h2]
      have HE : Hid (inRb (x, y, z) = false) := by rw [HD.out]; exact decide_eq_false fun h => h2 h.2.1
      go_wp2
      go_ret
      exact ⟨by rw [HE.out]; rfl, hB⟩
  · rw [inB_false h1]
    have HE : Hid (inRb (x, y, z) = false) := by rw [HD.out]; exact decide_eq_false fun h => h1 h.1
    go_wp2
    go_ret
    exact ⟨by rw [HE.out]; rfl, hB⟩

set_option maxHeartbeats 1000000 in
theorem mayFollow_any (x y z p q r : Int) (hp : 2 ≤ p ∧ p ≤ 512) (hq : 1 ≤ q ∧ q ≤ 512) (w : World) :
    Calls Tryz.prog 103 #[.agg #[.int .i64 x, .int .i64 y, .int .i64 z], .agg #[.int .i64 p, .int .i64 q, .int .i64 r]] w fun e w' => e = .returned (.bool (folb (p, q, r) (x, y, z))) ∧ Below w.heap.size w w' := by
  have hB : Below w.heap.size w ((w.alloc (.cells #[.int .i64 x, .int .i64 y, .int .i64 z] 78)).alloc (.cells #[.int .i64 p, .int .i64 q, .int .i64 r] 78)) := ((Below.refl _ _).alloc (Nat.le_refl _) _).alloc (by simp) _
  have HD : Hid (folb (p, q, r) (x, y, z) = decide (x > p + q ∨ x = p + q ∧ z ≠ r)) := rfl
  by_cases h1 : p + q < x
  · have HE : Hid (folb (p, q, r) (x, y, z) = true) := by rw [HD.out]; exact decide_eq_true (.inl h1)
    go_enter Tryz.func103, Tryz.ntmps103
    go_wp2
    go_ret
    exact ⟨by rw [HE.out]; rfl, hB⟩
  · by_cases h2 : x = p + q
    · by_cases h3 : z = r
      · have HE : Hid (folb (p, q, r) (x, y, z) = false) := by rw [HD.out]; exact decide_eq_false (by omega)
        have hb : (x == p + q) = true := by simpa using h2
        have hc : (z != r) = false := by simpa using h3
        clear h2 h3
        go_enter Tryz.func103, Tryz.ntmps103
        go_wp2
        go_ret
        exact ⟨by rw [HE.out]; rfl, hB⟩
      · have HE : Hid (folb (p, q, r) (x, y, z) = true) := by rw [HD.out]; exact decide_eq_true (.inr ⟨h2, h3⟩)
        have hb : (x == p + q) = true := by simpa using h2
        have hc : (z != r) = true := by simpa using h3
        clear h2 h3
        go_enter Tryz.func103, Tryz.ntmps103
        go_wp2
        go_ret
        exact ⟨by rw [HE.out]; rfl, hB⟩
    · have HE : Hid (folb (p, q, r) (x, y, z) = false) := by rw [HD.out]; exact decide_eq_false (by omega)
      have hb : (x == p + q) = false := by simpa using h2
      clear h2
      go_enter Tryz.func103, Tryz.ntmps103
      go_wp2
      go_ret
      exact ⟨by rw [HE.out]; rfl, hB⟩
end Go.Proofs.YtfbjagjgofdheaaGreatDoor
