import Derived.Test.YtfbjagjgofdheaaGreatDoorHf
namespace Go.Proofs.YtfbjagjgofdheaaGreatDoor
open Go.RowKit
set_option linter.unusedVariables false

/-- a key may stand where it stands -/
def keyOK (es : List E3) (i : Nat) : Prop := (es.getD i e0).1.size ≤ 12 ∧ (0 < i → kLt (es.getD (i - 1) e0).1 (es.getD i e0).1)
def leafE (e : E3) : Prop := e.2.1.size ≤ 10 ∧ e.2.2 = 0
def innE (e : E3) : Prop := e.2.1 = ByteArray.empty ∧ 2 ≤ e.2.2 ∧ e.2.2 ≤ 511
/-- an element that a node of kind k may have -/
def entOK (k : Int) (e : E3) : Prop := (k = 1 ∧ leafE e) ∨ (k = 2 ∧ innE e)
/-- the node may be laid down -/
def nodeOK (k : Int) (es : List E3) : Prop := ((k = 1 ∧ es.length ≤ 5) ∨ (k = 2 ∧ 2 ≤ es.length ∧ es.length ≤ 5)) ∧ ∀ i, i < es.length → keyOK es i ∧ entOK k (es.getD i e0)

set_option maxRecDepth 100000 in
set_option maxHeartbeats 2000000 in
theorem checkKeys_ok (a : Option Addr) (c : Nat) (es : List E3) (hl : es.length ≤ 5) (hok : ∀ i, i < es.length → keyOK es i) (w : World) (hv : NRead w (.slice a es.length c) es) :
    Calls Tryz.prog 95 #[.slice a es.length c] w fun e w' => e = .returned .nilIface ∧ Below w.heap.size w w' := by
  have HOK : Hid (∀ i, i < es.length → keyOK es i) := hok
  clear hok
  obtain ⟨_, _, he, hc⟩ := hv
  simp only [Value.slice.injEq, true_and] at he
  obtain ⟨rfl, rfl⟩ := he
  go_enter Tryz.func95, Tryz.ntmps95
  go_wp2
  go_loopw [8] (fun i wr => ∃ k : Nat, k ≤ es.length ∧ i = .int .i64 k ∧ Below w.heap.size w wr) (fun i _ => es.length - (intOf i).toNat)
  case atStart => exact ⟨0, Nat.zero_le _, rfl, Below.refl _ _⟩
  case round =>
    obtain ⟨k, hk, rfl, hb⟩ := hrel
    by_cases hlt : k < es.length
    · obtain ⟨b, off, rfl, hcell⟩ := hc (by omega)
      obtain ⟨c0, c1, c2⟩ := hcell k hlt
      have hbl : b < w.heap.size := World.block_lt_of_cell? _ _ c0
      rw [← hb.cell (p := ⟨b, off + k * 3, none⟩) hbl] at c0
      rw [← hb.cell (p := ⟨b, off + k * 3 + 1, none⟩) hbl] at c1
      rw [← hb.cell (p := ⟨b, off + k * 3 + 2, none⟩) hbl] at c2
      have hki : (k : Int) < (es.length : Int) := by omega
      have hbr : b < wr.heap.size := Nat.lt_of_lt_of_le hbl hb.size
      obtain ⟨q1, q3⟩ := HOK.out k hlt
      have HC : Hid _ := hcell
      have hb2 := fun o => hb.trans ((belowA wr o).mono hb.size)
      have hsz : ¬ ((es.getD k e0).1.size : Int) > 12 := by omega
      clear hc hcell
      by_cases h0 : k = 0
      · subst h0
        clear q3 q1
        simp only [Nat.zero_mul, Nat.add_zero] at c0 c1 c2
        generalize (es.getD 0 e0).1 = x at *
        generalize (es.getD 0 e0).2.1 = y at *
        generalize (es.getD 0 e0).2.2 = z at *
        go_wp2_with fail
        go_quiet (fail)
        go_wp2
        go_roundw
        case rel => exact ⟨1, by omega, by go_num, below_drewN (hb2 _) _⟩
        case measure => simp [intOf]; omega
      · have q3' := kLt_leq (q3 (by omega))
        obtain ⟨d0, -, -⟩ := HC.out (k - 1) (by omega)
        rw [← hb.cell (p := ⟨b, off + (k - 1) * 3, none⟩) hbl] at d0
        have hw1 : IntKind.i64.wrap ((k : Int) - 1) = ((k - 1 : Nat) : Int) := (IntWalk.i64_in _ ⟨by omega, by omega⟩).trans (by omega)
        have hi1 : ((k - 1 : Nat) : Int) < (es.length : Int) := by omega
        have hk0 : 0 < k := by omega
        clear q3 q1
        generalize k - 1 = k1 at *
        generalize (es.getD k e0).1 = x at *
        generalize (es.getD k e0).2.1 = y at *
        generalize (es.getD k e0).2.2 = z at *
        generalize (es.getD k1 e0).1 = z1 at *
        have HBX : Hid (Below w.heap.size w (wr.alloc (.cells #[.string x, .string y, .int .i64 z] 52))) := hb2 _
        have r0 : (wr.alloc (.cells #[.string x, .string y, .int .i64 z] 52)).cell? ⟨wr.heap.size, 0, none⟩ = some (.string x) := World.cell?_alloc_at _ _ _ _ rfl
        have rd : (wr.alloc (.cells #[.string x, .string y, .int .i64 z] 52)).cell? ⟨b, off + k1 * 3, none⟩ = some (.string z1) := (World.cell?_alloc_lt _ _ ⟨b, off + k1 * 3, none⟩ hbr).trans d0
        go_wp2_with fail
        generalize wr.alloc (.cells #[.string x, .string y, .int .i64 z] 52) = X0 at *
        clear c0 c1 c2 d0 hb2
        generalize wr.heap.size = rb at *
        go_quiet (fail)
        go_wp2
        go_roundw
        case rel => exact ⟨k + 1, by omega, by go_num, below_drewN HBX.out _⟩
        case measure => simp [intOf]; omega
    · have hki : ¬ (k : Int) < (es.length : Int) := by omega
      go_wp2
      go_ret
      exact ⟨rfl, hb⟩

set_option maxRecDepth 100000 in
set_option maxHeartbeats 2000000 in
theorem leafCheck (a : Option Addr) (c : Nat) (es : List E3) (hok : nodeOK 1 es) (w : World) (hv : NRead w (.slice a es.length c) es) :
    Calls Tryz.prog 93 #[.agg #[.int .i64 1, .int .i64 es.length, .slice a es.length c]] w fun e w' => e = .returned .nilIface ∧ Below w.heap.size w w' := by
  have hl : es.length ≤ 5 := by rcases hok.1 with h | h <;> omega
  have HL : Hid (∀ i, i < es.length → leafE (es.getD i e0)) := fun i hi => by
    rcases (hok.2 i hi).2 with h | h
    · exact h.2
    · exact absurd h.1 (by decide)
  have HK : Hid (∀ i, i < es.length → keyOK es i) := fun i hi => (hok.2 i hi).1
  have HV : Hid (NRead w (.slice a es.length c) es) := hv
  clear hok
  obtain ⟨_, _, he, hc⟩ := hv
  simp only [Value.slice.injEq, true_and] at he
  obtain ⟨rfl, rfl⟩ := he
  obtain ⟨W0, HW0⟩ : ∃ W0, Hid (W0 = w.alloc (.cells #[.int .i64 1, .int .i64 es.length, .slice a es.length c] 75)) := ⟨_, rfl⟩
  have hb0 : Below w.heap.size w W0 := by rw [HW0.out]; exact belowA _ _
  have hX : W0.heap[w.heap.size]? = some (.cells #[.int .i64 1, .int .i64 es.length, .slice a es.length c] 75 (0, 0)) := by rw [HW0.out]; exact heap_alloc_new w _
  have hs0 : w.heap.size < W0.heap.size := (Array.getElem?_eq_some_iff.1 hX).1
  have HCELL : Hid (∀ W : World, W.heap[w.heap.size]? = some (.cells #[.int .i64 1, .int .i64 es.length, .slice a es.length c] 75 (0, 0)) → W.cell? ⟨w.heap.size, 0, none⟩ = some (.int .i64 1) ∧ W.cell? ⟨w.heap.size, 1, none⟩ = some (.int .i64 es.length) ∧ W.cell? ⟨w.heap.size, 2, none⟩ = some (.slice a es.length c)) := fun W h => by
    simp [World.cell?, h]
  obtain ⟨x0, x1, x2⟩ := HCELL.out W0 hX
  go_enter Tryz.func93, Tryz.ntmps93
  go_upto_region 1 with fail
  rw [← HW0.out]
  go_wp2_with fail
  refine (checkNumber_ok 1 _ (.inl ⟨rfl, by omega, by omega⟩) _).mono ?_
  rintro e w1 ⟨rfl, hb1⟩
  have hX1 := (hb1.block _ hs0).trans hX
  obtain ⟨y0, y1, y2⟩ := HCELL.out w1 hX1
  have hB1 := hb0.trans (hb1.mono (Nat.le_of_lt hs0))
  have hs1 : w.heap.size < w1.heap.size := Nat.lt_of_lt_of_le hs0 hb1.size
  clear x0 x1 x2 hX hb1 hs0 hb0 HW0
  go_wp2
  go_loopw [15] (fun i wr => ∃ k : Nat, k ≤ es.length ∧ i = .int .i64 k ∧ Below w1.heap.size w1 wr) (fun i _ => es.length - (intOf i).toNat)
  case atStart => exact ⟨0, Nat.zero_le _, rfl, Below.refl _ _⟩
  case round =>
    obtain ⟨k, hk, rfl, hb⟩ := hrel
    have HB : Hid (Below w.heap.size w wr) := hB1.trans (hb.mono hB1.size)
    have hXr := (hb.block _ hs1).trans hX1
    obtain ⟨z0, z1, z2⟩ := HCELL.out wr hXr
    clear y0 y1 y2
    by_cases hlt : k < es.length
    · obtain ⟨b, off, rfl, hcell⟩ := hc (by omega)
      obtain ⟨c0, c1, c2⟩ := hcell k hlt
      have hbl : b < w.heap.size := World.block_lt_of_cell? _ _ c0
      rw [← HB.out.cell (p := ⟨b, off + k * 3, none⟩) hbl] at c0
      rw [← HB.out.cell (p := ⟨b, off + k * 3 + 1, none⟩) hbl] at c1
      rw [← HB.out.cell (p := ⟨b, off + k * 3 + 2, none⟩) hbl] at c2
      have hki : (k : Int) < (es.length : Int) := by omega
      obtain ⟨q1, q2⟩ := HL.out k hlt
      have hb2 := fun o => hb.trans ((belowA wr o).mono hb.size)
      have hsz : ¬ ((es.getD k e0).2.1.size : Int) > 10 := by omega
      rw [q2] at c2
      clear hc hcell q2 q1 hXr
      generalize (es.getD k e0).1 = x at *
      generalize (es.getD k e0).2.1 = y at *
      go_wp2
      go_roundw
      case rel => exact ⟨k + 1, by omega, by go_num, hb2 _⟩
      case measure => simp [intOf]; omega
    · have hki : ¬ (k : Int) < (es.length : Int) := by omega
      go_wp2_with fail
      refine (checkKeys_ok a _ es hl HK.out wr (HV.out.below HB.out)).mono ?_
      rintro e w3 ⟨rfl, hb3⟩
      have hB3 := HB.out.trans (hb3.mono HB.out.size)
      go_wp2
      go_ret
      exact ⟨rfl, hB3⟩

set_option maxRecDepth 100000 in
set_option maxHeartbeats 2000000 in
theorem innerCheck (a : Option Addr) (c : Nat) (es : List E3) (hok : nodeOK 2 es) (w : World) (hv : NRead w (.slice a es.length c) es) :
    Calls Tryz.prog 97 #[.agg #[.int .i64 2, .int .i64 es.length, .slice a es.length c]] w fun e w' => e = .returned .nilIface ∧ Below w.heap.size w w' := by
  have hl : 2 ≤ es.length ∧ es.length ≤ 5 := by rcases hok.1 with h | h <;> omega
  have HL : Hid (∀ i, i < es.length → innE (es.getD i e0)) := fun i hi => by
    rcases (hok.2 i hi).2 with h | h
    · exact absurd h.1 (by decide)
    · exact h.2
  have HK : Hid (∀ i, i < es.length → keyOK es i) := fun i hi => (hok.2 i hi).1
  have HV : Hid (NRead w (.slice a es.length c) es) := hv
  clear hok
  obtain ⟨_, _, he, hc⟩ := hv
  simp only [Value.slice.injEq, true_and] at he
  obtain ⟨rfl, rfl⟩ := he
  obtain ⟨W0, HW0⟩ : ∃ W0, Hid (W0 = w.alloc (.cells #[.int .i64 2, .int .i64 es.length, .slice a es.length c] 76)) := ⟨_, rfl⟩
  have hb0 : Below w.heap.size w W0 := by rw [HW0.out]; exact belowA _ _
  have hX : W0.heap[w.heap.size]? = some (.cells #[.int .i64 2, .int .i64 es.length, .slice a es.length c] 76 (0, 0)) := by rw [HW0.out]; exact heap_alloc_new w _
  have hs0 : w.heap.size < W0.heap.size := (Array.getElem?_eq_some_iff.1 hX).1
  have HCELL : Hid (∀ W : World, W.heap[w.heap.size]? = some (.cells #[.int .i64 2, .int .i64 es.length, .slice a es.length c] 76 (0, 0)) → W.cell? ⟨w.heap.size, 0, none⟩ = some (.int .i64 2) ∧ W.cell? ⟨w.heap.size, 1, none⟩ = some (.int .i64 es.length) ∧ W.cell? ⟨w.heap.size, 2, none⟩ = some (.slice a es.length c)) := fun W h => by
    simp [World.cell?, h]
  obtain ⟨x0, x1, x2⟩ := HCELL.out W0 hX
  go_enter Tryz.func97, Tryz.ntmps97
  go_upto_region 1 with fail
  rw [← HW0.out]
  go_wp2_with fail
  refine (checkNumber_ok 2 _ (.inr (.inl ⟨rfl, by omega, by omega⟩)) _).mono ?_
  rintro e w1 ⟨rfl, hb1⟩
  have hX1 := (hb1.block _ hs0).trans hX
  obtain ⟨y0, y1, y2⟩ := HCELL.out w1 hX1
  have hB1 := hb0.trans (hb1.mono (Nat.le_of_lt hs0))
  have hs1 : w.heap.size < w1.heap.size := Nat.lt_of_lt_of_le hs0 hb1.size
  clear x0 x1 x2 hX hb1 hs0 hb0 HW0
  go_wp2
  go_loopw [15] (fun i wr => ∃ k : Nat, k ≤ es.length ∧ i = .int .i64 k ∧ Below w1.heap.size w1 wr) (fun i _ => es.length - (intOf i).toNat)
  case atStart => exact ⟨0, Nat.zero_le _, rfl, Below.refl _ _⟩
  case round =>
    obtain ⟨k, hk, rfl, hb⟩ := hrel
    have HB : Hid (Below w.heap.size w wr) := hB1.trans (hb.mono hB1.size)
    have hXr := (hb.block _ hs1).trans hX1
    obtain ⟨z0, z1, z2⟩ := HCELL.out wr hXr
    clear y0 y1 y2
    by_cases hlt : k < es.length
    · obtain ⟨b, off, rfl, hcell⟩ := hc (by omega)
      obtain ⟨c0, c1, c2⟩ := hcell k hlt
      have hbl : b < w.heap.size := World.block_lt_of_cell? _ _ c0
      rw [← HB.out.cell (p := ⟨b, off + k * 3, none⟩) hbl] at c0
      rw [← HB.out.cell (p := ⟨b, off + k * 3 + 1, none⟩) hbl] at c1
      rw [← HB.out.cell (p := ⟨b, off + k * 3 + 2, none⟩) hbl] at c2
      have hki : (k : Int) < (es.length : Int) := by omega
      obtain ⟨q1, q2⟩ := HL.out k hlt
      have hb2 := fun o => hb.trans ((belowA wr o).mono hb.size)
      rw [q1] at c1
      clear hc hcell q1 hXr
      generalize (es.getD k e0).1 = x at *
      generalize (es.getD k e0).2.2 = z at *
      go_wp2_with fail
      refine (within_any _ _ _ _).mono ?_
      rintro e w2 ⟨rfl, rfl⟩
      rw [inB_true q2]
      go_wp2
      go_roundw
      case rel => exact ⟨k + 1, by omega, by go_num, hb2 _⟩
      case measure => simp [intOf]; omega
    · have hki : ¬ (k : Int) < (es.length : Int) := by omega
      go_wp2_with fail
      refine (checkKeys_ok a _ es hl.2 HK.out wr (HV.out.below HB.out)).mono ?_
      rintro e w3 ⟨rfl, hb3⟩
      have hB3 := HB.out.trans (hb3.mono HB.out.size)
      go_wp2
      go_ret
      exact ⟨rfl, hB3⟩
end Go.Proofs.YtfbjagjgofdheaaGreatDoor

namespace Go.Proofs.YtfbjagjgofdheaaGreatDoor
open Go.RowKit
set_option linter.unusedVariables false

/-- a text of up to n bytes with its length ahead -/
def textB (s : ByteArray) (n : Nat) : List Int := [(s.size : Int)] ++ sb s ++ List.replicate (n - s.size) 0
theorem textB_length (s : ByteArray) (n : Nat) (h : s.size ≤ n) : (textB s n).length = n + 1 := by simp [textB, sb_length]; omega
theorem textB_byt (s : ByteArray) (n : Nat) (h : s.size < 256) : Byt (textB s n) := by
  refine Byt.append (Byt.append (fun i => ?_) (sb_byt s)) (Byt.zeros _)
  match i with
  | 0 => simp; omega
  | i + 1 => simp
def tailB (k : Int) (e : E3) : List Int := if k = 1 then textB e.2.1 10 else leN e.2.2 2 ++ List.replicate 9 0
def entB (k : Int) (e : E3) : List Int := textB e.1 12 ++ tailB k e
theorem entOK.val {k : Int} {e : E3} (h : entOK k e) : k = 1 → e.2.1.size ≤ 10 := fun hk => by
  rcases h with h | h
  · exact h.2.1
  · exact absurd h.1 (by omega)
theorem tailB_length {k : Int} {e : E3} (h : entOK k e) : (tailB k e).length = 11 := by
  unfold tailB
  by_cases hk : k = 1
  · rw [if_pos hk, textB_length _ _ (h.val hk)]
  · rw [if_neg hk]; simp [leN_length]
theorem tailB_byt {k : Int} {e : E3} (h : entOK k e) : Byt (tailB k e) := by
  unfold tailB
  by_cases hk : k = 1
  · rw [if_pos hk]; exact textB_byt _ _ (by have := h.val hk; omega)
  · rw [if_neg hk]; exact (Byt.le _ _).append (Byt.zeros _)
theorem entB_length {k : Int} {e : E3} (h : entOK k e) (hs : e.1.size ≤ 12) : (entB k e).length = 24 := by
  rw [entB, List.length_append, textB_length _ _ hs, tailB_length h]
theorem entB_byt {k : Int} {e : E3} (h : entOK k e) (hs : e.1.size ≤ 12) : Byt (entB k e) := (textB_byt _ _ (by omega)).append (tailB_byt h)
/-- a node's bytes: the head, and the first i elements -/
def nodQ (k : Int) (es : List E3) : Nat → List Int
  | 0 => [k, (es.length : Int), 0, 0]
  | i + 1 => nodQ k es i ++ entB k (es.getD i e0)
theorem nodQ_step (k : Int) (es : List E3) (i : Nat) : nodQ k es (i + 1) = nodQ k es i ++ entB k (es.getD i e0) := rfl
theorem nodeOK.kind {k : Int} {es : List E3} (h : nodeOK k es) : (k = 1 ∨ k = 2) ∧ es.length ≤ 5 := by rcases h.1 with h | h <;> omega
theorem nodQ_length {k : Int} {es : List E3} (h : nodeOK k es) (i : Nat) (hi : i ≤ es.length) : (nodQ k es i).length = 4 + 24 * i :=
  pre_len (P := nodQ k es) (nodQ_step k es) rfl i (fun j hj => entB_length (h.2 j (by omega)).2 (h.2 j (by omega)).1.1)
theorem nodQ_byt {k : Int} {es : List E3} (h : nodeOK k es) (i : Nat) (hi : i ≤ es.length) : Byt (nodQ k es i) := by
  induction i with
  | zero =>
    have hk := h.kind
    intro i
    match i with
    | 0 => simp [nodQ]; omega
    | 1 => simp [nodQ]; omega
    | 2 => simp [nodQ]
    | 3 => simp [nodQ]
    | i + 4 => simp [nodQ]
  | succ i ih => exact (ih (by omega)).append (entB_byt (h.2 i (by omega)).2 (h.2 i (by omega)).1.1)
/-- the block -/
def nodL (k : Int) (es : List E3) : List Int := sealL (nodQ k es es.length)
/-- the same as the program lays it -/
def putE (k : Int) (zs : List Int) (off : Nat) (e : E3) : List Int := if k = 1 then putT zs off e.2.1 else putL zs off e.2.2 2
def layN (k : Int) (es : List E3) : Nat → List Int
  | 0 => headL k es.length
  | i + 1 => putE k (putT (layN k es i) (4 + 24 * i) (es.getD i e0).1) (4 + 24 * i + 13) (es.getD i e0)
theorem putT_at (P : List Int) (off : Nat) (ho : P.length = off) (s : ByteArray) (m : Nat) (hm : s.size + 1 ≤ m) : putT (P ++ List.replicate m 0) off s = P ++ ([(s.size : Int)] ++ sb s) ++ List.replicate (m - 1 - s.size) 0 := by
  obtain ⟨m, rfl⟩ : ∃ m', m = m' + 1 := ⟨m - 1, by omega⟩
  have hl := sb_length s
  have e1 : (P ++ List.replicate (m + 1) 0).set off (s.size : Int) = (P ++ [(s.size : Int)]) ++ List.replicate m 0 := by
    rw [List.set_append_right _ _ (by omega), ho, Nat.sub_self, List.replicate_succ, List.set_cons_zero]; simp
  have hp : (P ++ [(s.size : Int)]).length = off + 1 := by simp [ho]
  rw [putT, e1, ovr, List.take_append_of_le_length (by omega), List.take_of_length_le (by omega), List.drop_append, List.drop_of_length_le (by omega), hp, hl, show off + 1 + s.size - (off + 1) = s.size by omega, List.drop_replicate]
  simp
theorem layN_eq {k : Int} {es : List E3} (h : nodeOK k es) (i : Nat) (hi : i ≤ es.length) : layN k es i = nodQ k es i ++ List.replicate (124 - 24 * i) 0 := by
  induction i with
  | zero => rfl
  | succ i ih =>
    have hl := nodQ_length h i (by omega)
    have h5 := h.kind.2
    obtain ⟨⟨hs, -⟩, he⟩ := h.2 i (by omega)
    rw [layN, ih (by omega), putT_at _ _ hl _ _ (by omega), nodQ_step, entB]
    generalize es.getD i e0 = e at *
    have e1 : List.replicate (124 - 24 * i - 1 - e.1.size) (0 : Int) = List.replicate (12 - e.1.size) 0 ++ List.replicate (111 - 24 * i) 0 := by
      rw [List.replicate_append_replicate]; congr 1; omega
    rw [e1, ← List.append_assoc]
    have hl2 : (nodQ k es i ++ ([(e.1.size : Int)] ++ sb e.1) ++ List.replicate (12 - e.1.size) 0).length = 4 + 24 * i + 13 := by
      simp [hl, sb_length]; omega
    unfold putE tailB
    by_cases hk : k = 1
    · rw [if_pos hk, if_pos hk, putT_at _ _ hl2 _ _ (by have := he.val hk; omega)]
      have e2 : List.replicate (111 - 24 * i - 1 - e.2.1.size) (0 : Int) = List.replicate (10 - e.2.1.size) 0 ++ List.replicate (124 - 24 * (i + 1)) 0 := by
        have := he.val hk
        rw [List.replicate_append_replicate]; congr 1; omega
      rw [e2]
      simp [textB]
    · rw [if_neg hk, if_neg hk, putL_at _ _ hl2.symm _ _ 2 (by omega)]
      have e2 : List.replicate (111 - 24 * i - 2) (0 : Int) = List.replicate 9 0 ++ List.replicate (124 - 24 * (i + 1)) 0 := by
        rw [List.replicate_append_replicate]; congr 1; omega
      rw [e2]
      simp only [textB, List.append_assoc]
theorem layN_fill {k : Int} {es : List E3} (h : nodeOK k es) : layN k es es.length = fillL (nodQ k es es.length) ++ List.replicate 4 0 := by
  have h5 := h.kind.2
  rw [layN_eq h _ (Nat.le_refl _), fillL, nodQ_length h _ (Nat.le_refl _), List.append_assoc, List.replicate_append_replicate]
  congr 2; omega
theorem nodL_uns {k : Int} {es : List E3} (h : nodeOK k es) : putL (nodL k es) 124 0 4 = layN k es es.length := by
  have h5 := h.kind.2
  rw [nodL, sealL_uns _ (by rw [nodQ_length h _ (Nat.le_refl _)]; omega), layN_fill h]
theorem layN_seal {k : Int} {es : List E3} (h : nodeOK k es) : putL (layN k es es.length) 124 (crcOf ((layN k es es.length).take 124)) 4 = nodL k es := by
  have h5 := h.kind.2
  rw [layN_fill h, fill_seal _ (by rw [nodQ_length h _ (Nat.le_refl _)]; omega)]
  rfl
theorem nodL_length {k : Int} {es : List E3} (h : nodeOK k es) : (nodL k es).length = 128 := by
  have h5 := h.kind.2
  have := nodQ_length h es.length (Nat.le_refl _)
  exact sealL_length _ (by omega)
theorem nodL_byt {k : Int} {es : List E3} (h : nodeOK k es) : Byt (nodL k es) := (nodQ_byt h _ (Nat.le_refl _)).seal
theorem layN_length {k : Int} {es : List E3} (h : nodeOK k es) : (layN k es es.length).length = 128 := by rw [← nodL_uns h, putL_length]; exact nodL_length h
theorem layN_byt {k : Int} {es : List E3} (h : nodeOK k es) : Byt (layN k es es.length) := by rw [← nodL_uns h]; exact putL_bytG (nodL_byt h) _ _ _

/-- an entry's box -/
def BoxE (w : World) (rb : Nat) (e : E3) : Prop := w.cell? ⟨rb, 0, none⟩ = some (.string e.1) ∧ w.cell? ⟨rb, 1, none⟩ = some (.string e.2.1) ∧ w.cell? ⟨rb, 2, none⟩ = some (.int .i64 e.2.2)
theorem BoxE.upd {w w' : World} {rb g : Nat} {e : E3} (h : BoxE w rb e) (hu : Upd g (g + 1) w w') (hr : rb ≠ g) : BoxE w' rb e := by
  have hrb : rb < w.heap.size := World.block_lt_of_cell? w ⟨rb, 0, none⟩ h.1
  have e1 : w'.heap[rb]? = w.heap[rb]? := hu.block _ hrb (by omega)
  exact ⟨(World.cell?_of_block (a := ⟨rb, 0, none⟩) e1).trans h.1, (World.cell?_of_block (a := ⟨rb, 1, none⟩) e1).trans h.2.1, (World.cell?_of_block (a := ⟨rb, 2, none⟩) e1).trans h.2.2⟩
theorem textLay {w X : World} {g rb : Nat} {bx : Obj} {zs : List Int} {e : E3} (h : LayU w X g bx zs) (hr : rb ≠ g) (hc : BoxE X rb e) (off n cap : Nat) (s : ByteArray) (ho : off + n ≤ 128) (hs : s.size + 1 ≤ n) (hn : 2 ≤ n) (hcp : n ≤ cap) :
    Calls Tryz.prog 96 #[.slice (some ⟨g, off, none⟩) n cap, .string s] X.drew fun r w' => r = .returned (.tuple #[]) ∧ LayU w w' g bx (putT zs off s) ∧ BoxE w' rb e := by
  refine (putText_any g off n cap s zs X.drew h.drew.arr ho hs hn hcp).mono ?_
  rintro r w' ⟨rfl, hA, hu⟩
  exact ⟨rfl, h.drew.upd hu hA, BoxE.upd (w := X.drew) hc hu hr⟩
theorem numLay {w X : World} {g rb : Nat} {bx : Obj} {zs : List Int} {e : E3} (h : LayU w X g bx zs) (hr : rb ≠ g) (hc : BoxE X rb e) (off cap : Nat) (v : Int) (ho : off + 2 ≤ 128) :
    Calls Tryz.prog 60 #[.slice (some ⟨g, off, none⟩) 2 cap, .int .i64 v] X.drew fun r w' => r = .returned (.tuple #[]) ∧ LayU w w' g bx (putL zs off v 2) ∧ BoxE w' rb e := by
  refine (putNumber_any g off 2 cap v zs X.drew h.drew.arr ho (by omega)).mono ?_
  rintro r w' ⟨rfl, hA, hu⟩
  exact ⟨rfl, h.drew.upd hu hA, BoxE.upd (w := X.drew) hc hu hr⟩
end Go.Proofs.YtfbjagjgofdheaaGreatDoor

namespace Go.Proofs.YtfbjagjgofdheaaGreatDoor
open Go.RowKit
set_option linter.unusedVariables false

set_option maxRecDepth 100000 in
set_option maxHeartbeats 4000000 in
theorem leafLay (a : Option Addr) (c : Nat) (es : List E3) (hok : nodeOK 1 es) (w : World) (hv : NRead w (.slice a es.length c) es) :
    Calls Tryz.prog 94 #[.agg #[.int .i64 1, .int .i64 es.length, .slice a es.length c]] w fun e w' => e = .returned (.agg (u8s (layN 1 es es.length))) ∧ Below w.heap.size w w' := by
  have hl : es.length ≤ 5 := hok.kind.2
  have HOK : Hid (nodeOK 1 es) := hok
  clear hok
  have hh := headL_length 1 es.length
  have HHB : Hid (Byt (headL 1 es.length)) := headL_byt 1 es.length (by omega) (by omega)
  obtain ⟨bx, HBX⟩ : ∃ bx : Obj, Hid (bx = .cells #[.int .i64 1, .int .i64 es.length, .slice a es.length c] 75 (0, 0)) := ⟨_, rfl⟩
  have HCELL : Hid (∀ W : World, W.heap[w.heap.size]? = some bx → W.cell? ⟨w.heap.size, 2, none⟩ = some (.slice a es.length c)) := fun W h => by
    rw [HBX.out] at h
    simp [World.cell?, h]
  go_enter Tryz.func94, Tryz.ntmps94
  go_wp2_with fail
  obtain ⟨W0, HW⟩ : ∃ W0, Hid (W0 = (w.alloc (.cells #[.int .i64 1, .int .i64 es.length, .slice a es.length c] 75)).alloc (.cells Tryz.zeroCells100 100)) := ⟨_, rfl⟩
  rw [← HW.out]
  refine (begin_any 1 es.length (by omega) (by omega) W0).mono ?_
  rintro e w2 ⟨rfl, hb2⟩
  have HL0 : Hid (LayU w (w2.alloc (.cells (u8s (headL 1 es.length)) 100)) w2.heap.size bx (headL 1 es.length)) := by
    have e1 : W0.heap[w.heap.size]? = some bx := by
      rw [HW.out, HBX.out]
      exact ((belowA (w.alloc (.cells #[.int .i64 1, .int .i64 es.length, .slice a es.length c] 75)) (.cells Tryz.zeroCells100 100)).block _ (by simp)).trans (heap_alloc_new w _)
    have e3 : W0.there (w.heap.size + 1) 0 128 := by rw [HW.out, zeroRaw]; exact there_new _ _ (by simp)
    have e4 : W0.heap.size = w.heap.size + 1 + 1 := by rw [HW.out]; simp
    have e5 : Below w.heap.size w W0 := by rw [HW.out]; exact ((Below.refl _ _).alloc (Nat.le_refl _) _).alloc (by simp) _
    have hb3 := hb2.trans ((belowA w2 (.cells (u8s (headL 1 es.length)) 100)).mono hb2.size)
    have hs2 := hb2.size
    exact ⟨Arr.new w2 _ hh HHB.out _, e5.trans (hb3.mono e5.size), (hb3.block _ (show w.heap.size < W0.heap.size by omega)).trans e1, there_block e3 (hb3.block _ (by omega)), by omega⟩
  have p6 := HCELL.out _ HL0.out.box
  go_wp2_with (first | ((with_reducible refine wpList_alloc128 ?_ ?_); exact ⟨rfl, rfl⟩) | ((with_reducible refine wpList_store_new hh ?_ ?_); exact ⟨rfl, _, _, _, rfl, rfl, rfl, rfl⟩))
  generalize w2.alloc (.cells (u8s (headL 1 es.length)) 100) = W3 at *
  generalize w2.heap.size = g0 at *
  clear hb2 HW p6 HCELL HBX HHB hh
  go_loopw [13] (fun i wr => ∃ k : Nat, k ≤ es.length ∧ i = .int .i64 k ∧ LayU w wr g0 bx (layN 1 es k)) (fun i _ => es.length - (intOf i).toNat)
  case atStart => exact ⟨0, Nat.zero_le _, rfl, HL0.out⟩
  case round =>
    obtain ⟨k, hk, rfl, hL⟩ := hrel
    clear HL0
    by_cases hlt : k < es.length
    · have hki : (k : Int) < (es.length : Int) := by omega
      obtain ⟨_, _, he, hc⟩ := hv.below hL.below
      simp only [Value.slice.injEq, true_and] at he
      obtain ⟨rfl, rfl⟩ := he
      obtain ⟨b, off, rfl, hcell⟩ := hc (by omega)
      obtain ⟨c1, c2, c3⟩ := hcell k hlt
      obtain ⟨⟨hks, -⟩, hke⟩ := HOK.out.2 k hlt
      have HSN : Hid (layN 1 es (k + 1) = putT (putT (layN 1 es k) (4 + 24 * k) (es.getD k e0).1) (4 + 24 * k + 13) (es.getD k e0).2.1) := rfl
      obtain ⟨p, HP⟩ : ∃ p, Hid (es.getD k e0 = p) := ⟨_, rfl⟩
      rw [HP.out] at c1 c2 c3 HSN hks hke
      have HKS : Hid (p.1.size ≤ 12) := hks
      have HKE : Hid (entOK 1 p) := hke
      clear hks hke
      obtain ⟨x, y, z⟩ := p
      simp only at c1 c2 c3 HSN
      have HL : Hid _ := hL
      clear hL hcell hc hv
      obtain ⟨at4, HAT⟩ : ∃ at4 : Nat, Hid (4 + 24 * k = at4) := ⟨_, rfl⟩
      obtain ⟨cp, HCP⟩ : ∃ cp : Nat, Hid (128 - at4 = cp) := ⟨_, rfl⟩
      have hsl : ∀ X : World, (Instr.sliceAt 100 (.pointer (some ⟨g0, 0, none⟩)) (some (.int .i64 (4 + 24 * (k : Int)))) none none).run Tryz.prog X = .ok (.slice (some ⟨g0, at4, none⟩) cp cp) X := fun X => by
        rw [sliceRaw_l g0 (4 + 24 * k) (by omega) _ (by omega) X, HAT.out, HCP.out]
      have hcp4 : (24 : Int) ≤ (cp : Int) := by have := HAT.out; have := HCP.out; omega
      have hcp13 : (13 : Int) ≤ (cp : Int) := by omega
      have hcp15 : (15 : Int) ≤ (cp : Int) := by omega
      have hn0 : ¬ cp = 0 := by omega
      have hn2 : ¬ cp = 13 := by omega
      have HL0 := fun o => (show Hid (LayU w (wr.alloc o) g0 bx (layN 1 es k)) from HL.out.alloc o)
      have HC0 : Hid (BoxE (wr.alloc (.cells #[.string x, .string y, .int .i64 z] 52)) wr.heap.size (x, y, z)) := ⟨World.cell?_alloc_at _ _ _ _ rfl, World.cell?_alloc_at _ _ _ _ rfl, World.cell?_alloc_at _ _ _ _ rfl⟩
      have HNE : Hid (wr.heap.size ≠ g0) := by have := HL.out.arr.lt; unfold Hid; omega
      have HO : Hid (at4 + 24 ≤ 128 ∧ 24 ≤ cp) := by have := HAT.out; unfold Hid; omega
      go_wp2_with fail
      have hX0 := (HL0 (.cells #[.string x, .string y, .int .i64 z] 52)).out
      have hB0 := HC0.out
      generalize wr.alloc (.cells #[.string x, .string y, .int .i64 z] 52) = X0 at *
      generalize wr.heap.size = rb at *
      obtain ⟨d0, d1, d2⟩ := hB0
      have HX0 : Hid _ := hX0
      clear hX0 HL0 c1 c2 c3 hsl
      go_region_held3 (fun w' => w'.cell? ⟨rb, 0, none⟩ = some (.string x)) (first | go_keep | assumption)
        ((go_at_call 96; refine (textLay HX0.out HNE.out HC0.out at4 13 _ x (by have := HO.out; omega) (by have : x.size ≤ 12 := HKS.out; omega) (by omega) (by have := HO.out; omega)).mono ?_; rintro e w5 ⟨rfl, hL5, hc5⟩; have hd5 : w5.cell? ⟨rb, 0, none⟩ = some (.string x) := hc5.1))
      have HL5 : Hid _ := hL5
      have HC5 : Hid (BoxE w5 rb (x, y, z)) := hc5
      obtain ⟨e50, e51, e52⟩ := HC5.out
      clear hL5 hc5 d0 d1 d2 hd5
      simp only at e50 e51 e52
      go_wp2_with fail
      go_region_held3 (fun w' => w'.cell? ⟨rb, 1, none⟩ = some (.string y)) (first | go_keep | assumption)
        ((go_at_call 96; refine (textLay HL5.out HNE.out HC5.out (at4 + 13) 11 _ y (by have := HO.out; omega) (by have : y.size ≤ 10 := HKE.out.val rfl; omega) (by omega) (by have := HO.out; omega)).mono ?_; rintro e w6 ⟨rfl, hL6, hc6⟩; have hd6 : w6.cell? ⟨rb, 1, none⟩ = some (.string y) := hc6.2.1))
      have HL6 : Hid _ := hL6
      rw [HAT.out] at HSN
      rw [← HSN.out] at HL6
      clear hL6 hc6 hd6 e50 e51 e52
      go_wp2
      go_roundw
      case rel => exact ⟨k + 1, by omega, by go_num, HL6.out⟩
      case measure => simp [intOf]; omega
    · obtain rfl : k = es.length := by omega
      have hR3 := hL.arr.rng
      have hl3 := hL.arr.1
      have hT3 := hL.there
      have HBL : Hid (Below w.heap.size w (wr.setCells (w.heap.size + 1) 0 ((layN 1 es es.length).map (Value.int .u8)))) := Below.setCells hL.below (by omega) _ _
      have HRS : Hid _ := Rng8.stored hT3 hl3
      clear hL
      go_wp2_with (first | ((with_reducible refine wpList_load128 hR3 ?_ ?_); exact ⟨rfl, _, rfl, rfl⟩) | ((with_reducible refine wpList_store128 hT3 hl3 ?_ ?_); exact ⟨rfl, _, _, rfl, rfl, rfl⟩))
      exact bodyPost_ret (result_rng Tryz.results94 rfl HRS.out) rfl ⟨rfl, HBL.out⟩

set_option maxRecDepth 100000 in
set_option maxHeartbeats 4000000 in
theorem innerLay (a : Option Addr) (c : Nat) (es : List E3) (hok : nodeOK 2 es) (w : World) (hv : NRead w (.slice a es.length c) es) :
    Calls Tryz.prog 98 #[.agg #[.int .i64 2, .int .i64 es.length, .slice a es.length c]] w fun e w' => e = .returned (.agg (u8s (layN 2 es es.length))) ∧ Below w.heap.size w w' := by
  have hl : es.length ≤ 5 := hok.kind.2
  have HOK : Hid (nodeOK 2 es) := hok
  clear hok
  have hh := headL_length 2 es.length
  have HHB : Hid (Byt (headL 2 es.length)) := headL_byt 2 es.length (by omega) (by omega)
  obtain ⟨bx, HBX⟩ : ∃ bx : Obj, Hid (bx = .cells #[.int .i64 2, .int .i64 es.length, .slice a es.length c] 76 (0, 0)) := ⟨_, rfl⟩
  have HCELL : Hid (∀ W : World, W.heap[w.heap.size]? = some bx → W.cell? ⟨w.heap.size, 2, none⟩ = some (.slice a es.length c)) := fun W h => by
    rw [HBX.out] at h
    simp [World.cell?, h]
  go_enter Tryz.func98, Tryz.ntmps98
  go_wp2_with fail
  obtain ⟨W0, HW⟩ : ∃ W0, Hid (W0 = (w.alloc (.cells #[.int .i64 2, .int .i64 es.length, .slice a es.length c] 76)).alloc (.cells Tryz.zeroCells100 100)) := ⟨_, rfl⟩
  rw [← HW.out]
  refine (begin_any 2 es.length (by omega) (by omega) W0).mono ?_
  rintro e w2 ⟨rfl, hb2⟩
  have HL0 : Hid (LayU w (w2.alloc (.cells (u8s (headL 2 es.length)) 100)) w2.heap.size bx (headL 2 es.length)) := by
    have e1 : W0.heap[w.heap.size]? = some bx := by
      rw [HW.out, HBX.out]
      exact ((belowA (w.alloc (.cells #[.int .i64 2, .int .i64 es.length, .slice a es.length c] 76)) (.cells Tryz.zeroCells100 100)).block _ (by simp)).trans (heap_alloc_new w _)
    have e3 : W0.there (w.heap.size + 1) 0 128 := by rw [HW.out, zeroRaw]; exact there_new _ _ (by simp)
    have e4 : W0.heap.size = w.heap.size + 1 + 1 := by rw [HW.out]; simp
    have e5 : Below w.heap.size w W0 := by rw [HW.out]; exact ((Below.refl _ _).alloc (Nat.le_refl _) _).alloc (by simp) _
    have hb3 := hb2.trans ((belowA w2 (.cells (u8s (headL 2 es.length)) 100)).mono hb2.size)
    have hs2 := hb2.size
    exact ⟨Arr.new w2 _ hh HHB.out _, e5.trans (hb3.mono e5.size), (hb3.block _ (show w.heap.size < W0.heap.size by omega)).trans e1, there_block e3 (hb3.block _ (by omega)), by omega⟩
  have p6 := HCELL.out _ HL0.out.box
  go_wp2_with (first | ((with_reducible refine wpList_alloc128 ?_ ?_); exact ⟨rfl, rfl⟩) | ((with_reducible refine wpList_store_new hh ?_ ?_); exact ⟨rfl, _, _, _, rfl, rfl, rfl, rfl⟩))
  generalize w2.alloc (.cells (u8s (headL 2 es.length)) 100) = W3 at *
  generalize w2.heap.size = g0 at *
  clear hb2 HW p6 HCELL HBX HHB hh
  go_loopw [13] (fun i wr => ∃ k : Nat, k ≤ es.length ∧ i = .int .i64 k ∧ LayU w wr g0 bx (layN 2 es k)) (fun i _ => es.length - (intOf i).toNat)
  case atStart => exact ⟨0, Nat.zero_le _, rfl, HL0.out⟩
  case round =>
    obtain ⟨k, hk, rfl, hL⟩ := hrel
    clear HL0
    by_cases hlt : k < es.length
    · have hki : (k : Int) < (es.length : Int) := by omega
      obtain ⟨_, _, he, hc⟩ := hv.below hL.below
      simp only [Value.slice.injEq, true_and] at he
      obtain ⟨rfl, rfl⟩ := he
      obtain ⟨b, off, rfl, hcell⟩ := hc (by omega)
      obtain ⟨c1, c2, c3⟩ := hcell k hlt
      obtain ⟨⟨hks, -⟩, hke⟩ := HOK.out.2 k hlt
      have HSN : Hid (layN 2 es (k + 1) = putL (putT (layN 2 es k) (4 + 24 * k) (es.getD k e0).1) (4 + 24 * k + 13) (es.getD k e0).2.2 2) := rfl
      obtain ⟨p, HP⟩ : ∃ p, Hid (es.getD k e0 = p) := ⟨_, rfl⟩
      rw [HP.out] at c1 c2 c3 HSN hks hke
      have HKS : Hid (p.1.size ≤ 12) := hks
      have HKE : Hid (entOK 2 p) := hke
      clear hks hke
      obtain ⟨x, y, z⟩ := p
      simp only at c1 c2 c3 HSN
      have HL : Hid _ := hL
      clear hL hcell hc hv
      obtain ⟨at4, HAT⟩ : ∃ at4 : Nat, Hid (4 + 24 * k = at4) := ⟨_, rfl⟩
      obtain ⟨cp, HCP⟩ : ∃ cp : Nat, Hid (128 - at4 = cp) := ⟨_, rfl⟩
      have hsl : ∀ X : World, (Instr.sliceAt 100 (.pointer (some ⟨g0, 0, none⟩)) (some (.int .i64 (4 + 24 * (k : Int)))) none none).run Tryz.prog X = .ok (.slice (some ⟨g0, at4, none⟩) cp cp) X := fun X => by
        rw [sliceRaw_l g0 (4 + 24 * k) (by omega) _ (by omega) X, HAT.out, HCP.out]
      have hcp4 : (24 : Int) ≤ (cp : Int) := by have := HAT.out; have := HCP.out; omega
      have hcp13 : (13 : Int) ≤ (cp : Int) := by omega
      have hcp15 : (15 : Int) ≤ (cp : Int) := by omega
      have hn0 : ¬ cp = 0 := by omega
      have hn2 : ¬ cp = 13 := by omega
      have HL0 := fun o => (show Hid (LayU w (wr.alloc o) g0 bx (layN 2 es k)) from HL.out.alloc o)
      have HC0 : Hid (BoxE (wr.alloc (.cells #[.string x, .string y, .int .i64 z] 52)) wr.heap.size (x, y, z)) := ⟨World.cell?_alloc_at _ _ _ _ rfl, World.cell?_alloc_at _ _ _ _ rfl, World.cell?_alloc_at _ _ _ _ rfl⟩
      have HNE : Hid (wr.heap.size ≠ g0) := by have := HL.out.arr.lt; unfold Hid; omega
      have HO : Hid (at4 + 24 ≤ 128 ∧ 24 ≤ cp) := by have := HAT.out; unfold Hid; omega
      go_wp2_with fail
      have hX0 := (HL0 (.cells #[.string x, .string y, .int .i64 z] 52)).out
      have hB0 := HC0.out
      generalize wr.alloc (.cells #[.string x, .string y, .int .i64 z] 52) = X0 at *
      generalize wr.heap.size = rb at *
      obtain ⟨d0, d1, d2⟩ := hB0
      have HX0 : Hid _ := hX0
      clear hX0 HL0 c1 c2 c3 hsl
      go_region_held3 (fun w' => w'.cell? ⟨rb, 0, none⟩ = some (.string x)) (first | go_keep | assumption)
        ((go_at_call 96; refine (textLay HX0.out HNE.out HC0.out at4 13 _ x (by have := HO.out; omega) (by have : x.size ≤ 12 := HKS.out; omega) (by omega) (by have := HO.out; omega)).mono ?_; rintro e w5 ⟨rfl, hL5, hc5⟩; have hd5 : w5.cell? ⟨rb, 0, none⟩ = some (.string x) := hc5.1))
      have HL5 : Hid _ := hL5
      have HC5 : Hid (BoxE w5 rb (x, y, z)) := hc5
      obtain ⟨e50, e51, e52⟩ := HC5.out
      clear hL5 hc5 d0 d1 d2 hd5
      simp only at e50 e51 e52
      go_wp2_with fail
      go_region_held3 (fun w' => w'.cell? ⟨rb, 2, none⟩ = some (.int .i64 z)) (first | go_keep | assumption)
        ((go_at_call 60; refine (numLay HL5.out HNE.out HC5.out (at4 + 13) _ z (by have := HO.out; omega)).mono ?_; rintro e w6 ⟨rfl, hL6, hc6⟩; have hd6 : w6.cell? ⟨rb, 2, none⟩ = some (.int .i64 z) := hc6.2.2))
      have HL6 : Hid _ := hL6
      rw [HAT.out] at HSN
      rw [← HSN.out] at HL6
      clear hL6 hc6 hd6 e50 e51 e52
      go_wp2
      go_roundw
      case rel => exact ⟨k + 1, by omega, by go_num, HL6.out⟩
      case measure => simp [intOf]; omega
    · obtain rfl : k = es.length := by omega
      have hR3 := hL.arr.rng
      have hl3 := hL.arr.1
      have hT3 := hL.there
      have HBL : Hid (Below w.heap.size w (wr.setCells (w.heap.size + 1) 0 ((layN 2 es es.length).map (Value.int .u8)))) := Below.setCells hL.below (by omega) _ _
      have HRS : Hid _ := Rng8.stored hT3 hl3
      clear hL
      go_wp2_with (first | ((with_reducible refine wpList_load128 hR3 ?_ ?_); exact ⟨rfl, _, rfl, rfl⟩) | ((with_reducible refine wpList_store128 hT3 hl3 ?_ ?_); exact ⟨rfl, _, _, rfl, rfl, rfl⟩))
      exact bodyPost_ret (result_rng Tryz.results98 rfl HRS.out) rfl ⟨rfl, HBL.out⟩
end Go.Proofs.YtfbjagjgofdheaaGreatDoor
