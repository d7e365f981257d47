import Derived.Test.YtfbjagjgofdheaaGreatDoorNc
import Derived.Test.YtfbjagjgofdheaaGreatDoorGv
import Derived.Test.YtfbjagjgofdheaaGreatDoorGd
import Derived.Test.YtfbjagjgofdheaaGreatDoorHf
namespace Go.Proofs.YtfbjagjgofdheaaGreatDoor
open Go.RowKit
set_option linter.unusedVariables false

/-- the elements of a node's block -/
def rdE (k : Int) (zs : List Int) (i : Nat) : E3 := if k = 1 then (cutT zs (4 + 24 * i), cutT zs (4 + 24 * i + 13), 0) else (cutT zs (4 + 24 * i), ByteArray.empty, le2 zs (4 + 24 * i + 13))
def rdN (k : Int) (zs : List Int) (n : Nat) : List E3 := (List.range n).map (rdE k zs)
theorem rdN_length (k : Int) (zs : List Int) (n : Nat) : (rdN k zs n).length = n := by simp [rdN]
theorem rdN_get (k : Int) (zs : List Int) (n i : Nat) (h : i < n) : (rdN k zs n).getD i e0 = rdE k zs i := by simp [rdN, h]
/-- the lengths of the texts are in their bounds -/
def txOK (k : Int) (zs : List Int) (n : Nat) : Prop := ∀ i, i < n → zs.getD (4 + 24 * i) 0 < 13 ∧ (k = 1 → zs.getD (4 + 24 * i + 13) 0 < 11)
/-- readLeaf, readInner at work -/
structure Rn2 (k : Int) (w W : World) (n : Nat) (zs : List Int) (rs : List E3) : Prop where
  hd : W.heap[w.heap.size]? = some (.cells #[.int .i64 k, .int .i64 n] 73 (0, 0))
  raw : W.heap[w.heap.size + 1]? = some (.cells (u8s zs) 100 (0, 0))
  own : NOwn (w.heap.size + 1 + 1) (w.heap.size + 1 + 1 + 1) W (.slice (some ⟨w.heap.size + 1 + 1, 0, none⟩) n n) rs
  below : Below w.heap.size w W
  size : w.heap.size + 1 + 1 + 1 ≤ W.heap.size
theorem sliceRaw_lh (g l h : Nat) (hl : l ≤ h) (hh : h < 128) (i j : Int) (hi : i = l) (hj : j = h) (X : World) : (Instr.sliceAt 100 (.pointer (some ⟨g, 0, none⟩)) (some (.int .i64 i)) (some (.int .i64 j)) none).run Tryz.prog X = .ok (.slice (some ⟨g, l, none⟩) (h - l) (128 - l)) X := by
  subst hi hj
  have hal : Tryz.prog.arrayLen 100 = 128 := by kernel_rfl
  have hsz : (sizeOf (Tryz.prog.elem 100)).run Tryz.prog X = .ok 1 X := by kernel_rfl
  rw [run_sliceAt_array_lh (P := Tryz.prog) X 100 ⟨g, 0, none⟩ (by kernel_rfl) .i64 .i64 l h (by omega) (by omega) (by rw [hal]; omega), hsz]
  simp only [Result.andThen_ok, slicedAt, hal, Int.toNat_natCast, Nat.mul_one]
  rw [if_neg (by omega), Addr.add_mid, Nat.zero_add]
theorem getNumber_row' {W : World} {g : Nat} {t : TypeId} {zs : List Int} (hz : Byt zs) (h : W.heap[g]? = some (.cells (u8s zs) t (0, 0))) (off c : Nat) (ho : off + 1 < zs.length) :
    Calls Tryz.prog 72 #[.slice (some ⟨g, off, none⟩) 2 c] W fun e w' => e = .returned (.int .i64 (le2 zs off)) ∧ W = w' := by
  have h0 : W.cell? ⟨g, off, none⟩ = some (.int .u8 (zs.getD off 0)) := by
    rw [cell_of_row W g off _ t _ h]; simp [u8s, show off < zs.length by omega]
  have h1 : W.cell? ⟨g, off + 1, none⟩ = some (.int .u8 (zs.getD (off + 1) 0)) := by
    rw [cell_of_row W g (off + 1) _ t _ h]; simp [u8s, ho]
  have q0 := hz off
  have q1 := hz (off + 1)
  have := getNumber_two (zs.getD off 0).toNat (zs.getD (off + 1) 0).toNat (by omega) (by omega) g off c W (by rw [h0]; congr 2; omega) (by rw [h1]; congr 2; omega)
  refine this.mono ?_
  rintro e w' ⟨rfl, rfl⟩
  refine ⟨?_, rfl⟩
  unfold le2
  congr 2
  omega

set_option maxRecDepth 100000 in
set_option maxHeartbeats 1000000 in
theorem readLeaf_any (n : Nat) (hn : n ≤ 5) (zs : List Int) (hl : zs.length = 128) (hz : Byt zs) (htx : txOK 1 zs n) (w : World) :
    Calls Tryz.prog 63 #[.agg #[.int .i64 1, .int .i64 n], .agg (u8s zs)] w fun e w' => (∃ a c, e = .returned (.tuple #[.iface 75 (.agg #[.int .i64 1, .int .i64 n, .slice a n c]), .nilIface]) ∧ NRead w' (.slice a (rdN 1 zs n).length c) (rdN 1 zs n) ∧ ∀ p, a = some p → w.heap.size ≤ p.block) ∧ Below w.heap.size w w' := by
  obtain ⟨cur, hmk, hO⟩ := madeEntries n (by omega) ((w.alloc (.cells #[.int .i64 1, .int .i64 n] 73)).alloc (.cells (u8s zs) 100))
  have hs2 : ((w.alloc (.cells #[.int .i64 1, .int .i64 n] 73)).alloc (.cells (u8s zs) 100)).heap.size = w.heap.size + 1 + 1 := by simp
  have hrz := enP_zero (rdN 1 zs n)
  rw [rdN_length] at hrz
  rw [← hrz, hs2] at hO
  rw [hs2] at hmk
  have h1 := heap_alloc_new w (.cells #[.int .i64 1, .int .i64 n] 73)
  have h2 := heap_alloc_new (w.alloc (.cells #[.int .i64 1, .int .i64 n] 73)) (.cells (u8s zs) 100)
  have hst : Rn2 1 w (((w.alloc (.cells #[.int .i64 1, .int .i64 n] 73)).alloc (.cells (u8s zs) 100)).alloc (.cells cur 52)) n zs (enP (rdN 1 zs n) 0) :=
    ⟨((belowA _ _).block _ (by simp; omega)).trans (((belowA _ _).block _ (by simp)).trans h1), ((belowA _ _).block _ (by simp)).trans (by simpa using h2), hO, ((belowA _ _).trans ((belowA _ _).mono (by simp))).trans ((belowA _ _).mono (by simp; omega)), by simp⟩
  clear hO h1 h2 hs2 hrz
  have HTX : Hid (txOK 1 zs n) := htx
  clear htx
  go_enter Tryz.func63, Tryz.ntmps63
  go_wp2_with fail
  generalize (((w.alloc (.cells #[.int .i64 1, .int .i64 n] 73)).alloc (.cells (u8s zs) 100)).alloc (.cells cur 52)) = W0 at *
  clear hmk
  go_loopw [7, 8, 9, 10, 11, 12, 18] (fun _ _ _ _ _ _ i wr => ∃ k : Nat, k ≤ n ∧ i = .int .i64 k ∧ Rn2 1 w wr n zs (enP (rdN 1 zs n) k)) (fun _ _ _ _ _ _ i _ => n - (intOf i).toNat)
  case atStart => exact ⟨0, by omega, rfl, hst⟩
  case round =>
    obtain ⟨k, hk, rfl, hK⟩ := hrel
    clear hst
    by_cases hlt : k < n
    · have hki : (k : Int) < (n : Int) := by omega
      obtain ⟨t1, t2⟩ := HTX.out k hlt
      obtain ⟨y, HY⟩ : ∃ y : Nat, Hid (y = 4 + 24 * k) := ⟨_, rfl⟩
      rw [← HY.out] at t1 t2
      have t3 := t2 rfl
      have NN : Hid (Calls Tryz.prog 71 #[.slice (some ⟨w.heap.size + 1, y, none⟩) 13 (128 - y)] wr fun e w' => e = .returned (.tuple #[.string (cutT zs y), .bool true]) ∧ wr = w') := getText_row hz hK.raw y 13 _ (by have := HY.out; omega) (by omega) (by have := HY.out; omega) (by omega)
      have NM : Hid (Calls Tryz.prog 71 #[.slice (some ⟨w.heap.size + 1, y + 13, none⟩) 11 (115 - y)] wr fun e w' => e = .returned (.tuple #[.string (cutT zs (y + 13)), .bool true]) ∧ wr = w') := getText_row hz hK.raw (y + 13) 11 _ (by have := HY.out; omega) (by omega) (by have := HY.out; omega) (by omega)
      have m1 : IntKind.i64.wrap (24 * (k : Int)) = 24 * (k : Int) := IntWalk.i64_in _ ⟨by omega, by omega⟩
      have m2 : IntKind.i64.wrap (4 + 24 * (k : Int)) = (y : Int) := (IntWalk.i64_in _ ⟨by omega, by omega⟩).trans (by have := HY.out; omega)
      have m3 : IntKind.i64.wrap ((y : Int) + 13) = (y : Int) + 13 := IntWalk.i64_in _ ⟨by omega, by have := HY.out; omega⟩
      have m4 : IntKind.i64.wrap ((y : Int) + 24) = (y : Int) + 24 := IntWalk.i64_in _ ⟨by omega, by have := HY.out; omega⟩
      have s1 := fun X => sliceRaw_lh (w.heap.size + 1) y (y + 13) (by omega) (by have := HY.out; omega) y ((y : Int) + 13) rfl (by omega) X
      have s2 := fun X => sliceRaw_lh (w.heap.size + 1) (y + 13) (y + 24) (by omega) (by have := HY.out; omega) ((y : Int) + 13) ((y : Int) + 24) (by omega) (by omega) X
      rw [show y + 13 - y = 13 by omega] at s1
      rw [show y + 24 - (y + 13) = 11 by omega] at s2
      have HT : Hid ((enP (rdN 1 zs n) k).set k (cutT zs y, cutT zs (y + 13), 0) = enP (rdN 1 zs n) (k + 1)) := by
        have := enP_step (rdN 1 zs n) k (by rw [rdN_length]; exact hlt)
        rw [rdN_get 1 zs n k hlt, rdE, if_pos rfl, ← HY.out] at this
        exact this
      have ho := hK.own
      obtain ⟨p1, p2⟩ := ho.stored k (by omega) (cutT zs y) (cutT zs (y + 13)) 0
      rw [HT.out, Nat.zero_add] at p1
      rw [Nat.zero_add] at p2
      have hln : (enP (rdN 1 zs n) k).length = n := by rw [enP_length _ _ (by rw [rdN_length]; omega), rdN_length]
      obtain ⟨_, _, he, hs⟩ := ho
      simp only [Value.slice.injEq] at he
      obtain ⟨rfl, hbad, rfl⟩ := he
      clear hbad
      obtain ⟨_, _, he, _, _, _, hfr, hcc⟩ := hs (by omega)
      simp only [Option.some.injEq, Addr.mk.injEq, and_true] at he
      obtain ⟨rfl, rfl⟩ := he
      obtain ⟨c0, c1, c2⟩ := hcc k (by omega)
      rw [Nat.zero_add] at c0 c1 c2
      have f0 := hfr (k * 3)
      have f1 := hfr (k * 3 + 1)
      have f2 := hfr (k * 3 + 2)
      have HN1 : Hid (Rn2 1 w (((wr.setCell ⟨w.heap.size + 1 + 1, k * 3, none⟩ (.string (cutT zs y))).setCell ⟨w.heap.size + 1 + 1, k * 3 + 1, none⟩ (.string (cutT zs (y + 13)))).setCell ⟨w.heap.size + 1 + 1, k * 3 + 2, none⟩ (.int .i64 0)) n zs (enP (rdN 1 zs n) (k + 1))) := by
        have q1 := hK.size
        exact ⟨(p2.block _ (by omega) (by omega)).trans hK.hd, (p2.block _ (by omega) (by omega)).trans hK.raw, p1, hK.below.trans (p2.below (by omega) (by omega)), Nat.le_trans q1 p2.size⟩
      generalize (enP (rdN 1 zs n) k).getD k e0 = cpp at *
      clear hs hcc hfr hln p1 p2 hK t1 t2 t3 HT
      generalize cutT zs (y + 13) = vx at *
      generalize cutT zs y = kx at *
      go_wp2_with fail
      refine NN.out.mono ?_
      rintro e w1 ⟨rfl, rfl⟩
      go_wp2_with fail
      refine NM.out.mono ?_
      rintro e w1 ⟨rfl, rfl⟩
      go_wp2
      go_roundw
      case rel => exact ⟨k + 1, by omega, by go_num, HN1.out⟩
      case measure => simp [intOf]; omega
    · have hke : k = n := by omega
      have h0 : wr.cell? ⟨w.heap.size, 0, none⟩ = some (.int .i64 1) := (cell_of_row wr _ _ _ _ _ hK.hd).trans rfl
      have h1 : wr.cell? ⟨w.heap.size, 1, none⟩ = some (.int .i64 n) := (cell_of_row wr _ _ _ _ _ hK.hd).trans rfl
      have HR : Hid (NRead wr (.slice (some ⟨w.heap.size + 1 + 1, 0, none⟩) (rdN 1 zs n).length n) (rdN 1 zs n)) := by
        have q := hK.own.read
        have e := enP_end (rdN 1 zs n)
        rw [rdN_length] at e
        rw [hke, e] at q
        rw [rdN_length]
        exact q
      have hb := hK.below
      have hki : ¬ (k : Int) < (n : Int) := by omega
      clear hK hke
      go_wp2
      exact bodyPost_ret (v := .tuple #[.iface 75 (.agg #[.int .i64 1, .int .i64 n, .slice (some ⟨w.heap.size + 1 + 1, 0, none⟩) n n]), .nilIface]) (by simp [results, Tryz.results63, go_sem]) rfl ⟨⟨_, _, rfl, HR.out, fun p hp => by cases hp; show w.heap.size ≤ w.heap.size + 1 + 1; omega⟩, hb⟩

set_option maxRecDepth 100000 in
set_option maxHeartbeats 1000000 in
theorem readInner_any (n : Nat) (hn : n ≤ 5) (zs : List Int) (hl : zs.length = 128) (hz : Byt zs) (htx : txOK 2 zs n) (w : World) :
    Calls Tryz.prog 64 #[.agg #[.int .i64 2, .int .i64 n], .agg (u8s zs)] w fun e w' => (∃ a c, e = .returned (.tuple #[.iface 76 (.agg #[.int .i64 2, .int .i64 n, .slice a n c]), .nilIface]) ∧ NRead w' (.slice a (rdN 2 zs n).length c) (rdN 2 zs n) ∧ ∀ p, a = some p → w.heap.size ≤ p.block) ∧ Below w.heap.size w w' := by
  obtain ⟨cur, hmk, hO⟩ := madeEntries n (by omega) ((w.alloc (.cells #[.int .i64 2, .int .i64 n] 73)).alloc (.cells (u8s zs) 100))
  have hs2 : ((w.alloc (.cells #[.int .i64 2, .int .i64 n] 73)).alloc (.cells (u8s zs) 100)).heap.size = w.heap.size + 1 + 1 := by simp
  have hrz := enP_zero (rdN 2 zs n)
  rw [rdN_length] at hrz
  rw [← hrz, hs2] at hO
  rw [hs2] at hmk
  have h1 := heap_alloc_new w (.cells #[.int .i64 2, .int .i64 n] 73)
  have h2 := heap_alloc_new (w.alloc (.cells #[.int .i64 2, .int .i64 n] 73)) (.cells (u8s zs) 100)
  have hst : Rn2 2 w (((w.alloc (.cells #[.int .i64 2, .int .i64 n] 73)).alloc (.cells (u8s zs) 100)).alloc (.cells cur 52)) n zs (enP (rdN 2 zs n) 0) :=
    ⟨((belowA _ _).block _ (by simp; omega)).trans (((belowA _ _).block _ (by simp)).trans h1), ((belowA _ _).block _ (by simp)).trans (by simpa using h2), hO, ((belowA _ _).trans ((belowA _ _).mono (by simp))).trans ((belowA _ _).mono (by simp; omega)), by simp⟩
  clear hO h1 h2 hs2 hrz
  have HTX : Hid (txOK 2 zs n) := htx
  clear htx
  go_enter Tryz.func64, Tryz.ntmps64
  go_wp2_with fail
  generalize (((w.alloc (.cells #[.int .i64 2, .int .i64 n] 73)).alloc (.cells (u8s zs) 100)).alloc (.cells cur 52)) = W0 at *
  clear hmk
  go_loopw [7, 8, 9, 10, 16] (fun _ _ _ _ i wr => ∃ k : Nat, k ≤ n ∧ i = .int .i64 k ∧ Rn2 2 w wr n zs (enP (rdN 2 zs n) k)) (fun _ _ _ _ i _ => n - (intOf i).toNat)
  case atStart => exact ⟨0, by omega, rfl, hst⟩
  case round =>
    obtain ⟨k, hk, rfl, hK⟩ := hrel
    clear hst
    by_cases hlt : k < n
    · have hki : (k : Int) < (n : Int) := by omega
      obtain ⟨t1, t2⟩ := HTX.out k hlt
      obtain ⟨y, HY⟩ : ∃ y : Nat, Hid (y = 4 + 24 * k) := ⟨_, rfl⟩
      rw [← HY.out] at t1 t2
      have NN : Hid (Calls Tryz.prog 71 #[.slice (some ⟨w.heap.size + 1, y, none⟩) 13 (128 - y)] wr fun e w' => e = .returned (.tuple #[.string (cutT zs y), .bool true]) ∧ wr = w') := getText_row hz hK.raw y 13 _ (by have := HY.out; omega) (by omega) (by have := HY.out; omega) (by omega)
      have NM : Hid (Calls Tryz.prog 72 #[.slice (some ⟨w.heap.size + 1, y + 13, none⟩) 2 (115 - y)] wr fun e w' => e = .returned (.int .i64 (le2 zs (y + 13))) ∧ wr = w') := getNumber_row' hz hK.raw (y + 13) _ (by have := HY.out; omega)
      have m1 : IntKind.i64.wrap (24 * (k : Int)) = 24 * (k : Int) := IntWalk.i64_in _ ⟨by omega, by omega⟩
      have m2 : IntKind.i64.wrap (4 + 24 * (k : Int)) = (y : Int) := (IntWalk.i64_in _ ⟨by omega, by omega⟩).trans (by have := HY.out; omega)
      have m3 : IntKind.i64.wrap ((y : Int) + 13) = (y : Int) + 13 := IntWalk.i64_in _ ⟨by omega, by have := HY.out; omega⟩
      have m4 : IntKind.i64.wrap ((y : Int) + 13 + 2) = (y : Int) + 15 := (IntWalk.i64_in _ ⟨by omega, by have := HY.out; omega⟩).trans (by omega)
      have s1 := fun X => sliceRaw_lh (w.heap.size + 1) y (y + 13) (by omega) (by have := HY.out; omega) y ((y : Int) + 13) rfl (by omega) X
      have s2 := fun X => sliceRaw_lh (w.heap.size + 1) (y + 13) (y + 15) (by omega) (by have := HY.out; omega) ((y : Int) + 13) ((y : Int) + 15) (by omega) (by omega) X
      rw [show y + 13 - y = 13 by omega] at s1
      rw [show y + 15 - (y + 13) = 2 by omega] at s2
      have HT : Hid ((enP (rdN 2 zs n) k).set k (cutT zs y, ByteArray.empty, le2 zs (y + 13)) = enP (rdN 2 zs n) (k + 1)) := by
        have := enP_step (rdN 2 zs n) k (by rw [rdN_length]; exact hlt)
        rw [rdN_get 2 zs n k hlt, rdE, if_neg (by decide), ← HY.out] at this
        exact this
      have ho := hK.own
      obtain ⟨p1, p2⟩ := ho.stored k (by omega) (cutT zs y) ByteArray.empty (le2 zs (y + 13))
      rw [HT.out, Nat.zero_add] at p1
      rw [Nat.zero_add] at p2
      have hln : (enP (rdN 2 zs n) k).length = n := by rw [enP_length _ _ (by rw [rdN_length]; omega), rdN_length]
      obtain ⟨_, _, he, hs⟩ := ho
      simp only [Value.slice.injEq] at he
      obtain ⟨rfl, hbad, rfl⟩ := he
      clear hbad
      obtain ⟨_, _, he, _, _, _, hfr, hcc⟩ := hs (by omega)
      simp only [Option.some.injEq, Addr.mk.injEq, and_true] at he
      obtain ⟨rfl, rfl⟩ := he
      obtain ⟨c0, c1, c2⟩ := hcc k (by omega)
      rw [Nat.zero_add] at c0 c1 c2
      have f0 := hfr (k * 3)
      have f1 := hfr (k * 3 + 1)
      have f2 := hfr (k * 3 + 2)
      have HN1 : Hid (Rn2 2 w (((wr.setCell ⟨w.heap.size + 1 + 1, k * 3, none⟩ (.string (cutT zs y))).setCell ⟨w.heap.size + 1 + 1, k * 3 + 1, none⟩ (.string ByteArray.empty)).setCell ⟨w.heap.size + 1 + 1, k * 3 + 2, none⟩ (.int .i64 (le2 zs (y + 13)))) n zs (enP (rdN 2 zs n) (k + 1))) := by
        have q1 := hK.size
        exact ⟨(p2.block _ (by omega) (by omega)).trans hK.hd, (p2.block _ (by omega) (by omega)).trans hK.raw, p1, hK.below.trans (p2.below (by omega) (by omega)), Nat.le_trans q1 p2.size⟩
      generalize (enP (rdN 2 zs n) k).getD k e0 = cpp at *
      clear hs hcc hfr hln p1 p2 hK t1 t2 HT
      generalize le2 zs (y + 13) = vx at *
      generalize cutT zs y = kx at *
      go_wp2_with fail
      refine NN.out.mono ?_
      rintro e w1 ⟨rfl, rfl⟩
      go_wp2_with fail
      refine NM.out.mono ?_
      rintro e w1 ⟨rfl, rfl⟩
      go_wp2
      go_roundw
      case rel => exact ⟨k + 1, by omega, by go_num, HN1.out⟩
      case measure => simp [intOf]; omega
    · have hke : k = n := by omega
      have h0 : wr.cell? ⟨w.heap.size, 0, none⟩ = some (.int .i64 2) := (cell_of_row wr _ _ _ _ _ hK.hd).trans rfl
      have h1 : wr.cell? ⟨w.heap.size, 1, none⟩ = some (.int .i64 n) := (cell_of_row wr _ _ _ _ _ hK.hd).trans rfl
      have HR : Hid (NRead wr (.slice (some ⟨w.heap.size + 1 + 1, 0, none⟩) (rdN 2 zs n).length n) (rdN 2 zs n)) := by
        have q := hK.own.read
        have e := enP_end (rdN 2 zs n)
        rw [rdN_length] at e
        rw [hke, e] at q
        rw [rdN_length]
        exact q
      have hb := hK.below
      have hki : ¬ (k : Int) < (n : Int) := by omega
      clear hK hke
      go_wp2
      exact bodyPost_ret (v := .tuple #[.iface 76 (.agg #[.int .i64 2, .int .i64 n, .slice (some ⟨w.heap.size + 1 + 1, 0, none⟩) n n]), .nilIface]) (by simp [results, Tryz.results64, go_sem]) rfl ⟨⟨_, _, rfl, HR.out, fun p hp => by cases hp; show w.heap.size ≤ w.heap.size + 1 + 1; omega⟩, hb⟩
end Go.Proofs.YtfbjagjgofdheaaGreatDoor

namespace Go.Proofs.YtfbjagjgofdheaaGreatDoor
open Go.RowKit
set_option linter.unusedVariables false

theorem cutT_of {zs : List Int} {off : Nat} {s : ByteArray} (h0 : zs.getD off 0 = s.size) (h : ∀ j, j < s.size → zs.getD (off + 1 + j) 0 = (sb s).getD j 0) (hl : off + 1 + s.size ≤ zs.length) : cutT zs off = s := by
  have e : (zs.drop (off + 1)).take s.size = sb s := by
    have hs := sb_length s
    apply List.ext_getElem?
    intro j
    by_cases hj : j < s.size
    · have q := h j hj
      simp only [List.getD_eq_getElem?_getD] at q
      rw [List.getElem?_take, if_pos hj, List.getElem?_drop]
      rw [List.getElem?_eq_getElem (show off + 1 + j < zs.length by omega), List.getElem?_eq_getElem (show j < (sb s).length by omega)] at q ⊢
      simpa using q
    · rw [List.getElem?_eq_none (by simp; omega), List.getElem?_eq_none (by omega)]
  unfold cutT
  rw [h0, Int.toNat_natCast, e, tx_sb]
theorem textB_zero (s : ByteArray) (n : Nat) : (textB s n).getD 0 0 = s.size := by simp [textB]
theorem textB_at (s : ByteArray) (n j : Nat) (hj : j < s.size) : (textB s n).getD (1 + j) 0 = (sb s).getD j 0 := by
  have hs := sb_length s
  simp only [textB, List.getD_eq_getElem?_getD, List.append_assoc]
  rw [List.getElem?_append_right (by simp), List.getElem?_append_left (by simp; omega)]
  simp
theorem app_left (a b : List Int) (j : Nat) (h : j < a.length) : (a ++ b).getD j 0 = a.getD j 0 := by
  simp only [List.getD_eq_getElem?_getD]; rw [List.getElem?_append_left h]
theorem app_right (a b : List Int) (j n : Nat) (h : a.length = n) : (a ++ b).getD (n + j) 0 = b.getD j 0 := by
  simp only [List.getD_eq_getElem?_getD]; rw [List.getElem?_append_right (by omega), h, Nat.add_sub_cancel_left]

section
variable {k : Int} {es : List E3}
theorem nod_at (h : nodeOK k es) (j : Nat) (hj : j < 4) : (nodL k es).getD j 0 = ([k, (es.length : Int), 0, 0] : List Int).getD j 0 := by
  have hl := nodQ_length h es.length (Nat.le_refl _)
  rw [nodL, sealL_at _ _ (by omega), pre_head (P := nodQ k es) (nodQ_step k es) (h := 4) rfl _ _ hj]
  rfl
theorem nod_head (h : nodeOK k es) : (nodL k es).getD 0 0 = k ∧ (nodL k es).getD 1 0 = es.length := ⟨by rw [nod_at h 0 (by omega)]; rfl, by rw [nod_at h 1 (by omega)]; rfl⟩
theorem nod_ent (h : nodeOK k es) (i : Nat) (hi : i < es.length) (j : Nat) (hj : j < 24) : (nodL k es).getD (4 + 24 * i + j) 0 = (entB k (es.getD i e0)).getD j 0 := by
  have hl := nodQ_length h es.length (Nat.le_refl _)
  rw [nodL, sealL_at _ _ (by omega), pre_at (P := nodQ k es) (nodQ_step k es) (h := 4) (m := 24) rfl _ (fun k hk => entB_length (h.2 k hk).2 (h.2 k hk).1.1) i hi j hj]
theorem nod_key (h : nodeOK k es) (i : Nat) (hi : i < es.length) : (nodL k es).getD (4 + 24 * i) 0 = (es.getD i e0).1.size ∧ cutT (nodL k es) (4 + 24 * i) = (es.getD i e0).1 := by
  obtain ⟨⟨hs, -⟩, he⟩ := h.2 i hi
  have h5 := h.kind.2
  have hl := nodL_length h
  have ht := textB_length _ _ hs
  have e0' := nod_ent h i hi 0 (by omega)
  rw [Nat.add_zero, entB, app_left _ _ _ (by omega), textB_zero] at e0'
  refine ⟨e0', cutT_of e0' (fun j hj => ?_) (by omega)⟩
  rw [Nat.add_assoc, nod_ent h i hi (1 + j) (by omega), entB, app_left _ _ _ (by omega), textB_at _ _ _ hj]
theorem nod_tail (h : nodeOK k es) (i : Nat) (hi : i < es.length) (j : Nat) (hj : j < 11) : (nodL k es).getD (4 + 24 * i + 13 + j) 0 = (tailB k (es.getD i e0)).getD j 0 := by
  obtain ⟨⟨hs, -⟩, he⟩ := h.2 i hi
  rw [Nat.add_assoc, nod_ent h i hi (13 + j) (by omega), entB, app_right _ _ _ _ (textB_length _ _ hs)]
theorem nod_val (h : nodeOK k es) (hk : k = 1) (i : Nat) (hi : i < es.length) : (nodL k es).getD (4 + 24 * i + 13) 0 = (es.getD i e0).2.1.size ∧ cutT (nodL k es) (4 + 24 * i + 13) = (es.getD i e0).2.1 := by
  obtain ⟨⟨hs, -⟩, he⟩ := h.2 i hi
  have h5 := h.kind.2
  have hl := nodL_length h
  have hv := he.val hk
  have e0' := nod_tail h i hi 0 (by omega)
  rw [Nat.add_zero, tailB, if_pos hk, textB_zero] at e0'
  refine ⟨e0', cutT_of e0' (fun j hj => ?_) (by omega)⟩
  rw [Nat.add_assoc, nod_tail h i hi (1 + j) (by omega), tailB, if_pos hk, textB_at _ _ _ hj]
theorem nod_child (h : nodeOK k es) (hk : k = 2) (i : Nat) (hi : i < es.length) : le2 (nodL k es) (4 + 24 * i + 13) = (es.getD i e0).2.2 := by
  have e0' := nod_tail h i hi 0 (by omega)
  have e1' := nod_tail h i hi 1 (by omega)
  have hk1 : ¬ k = 1 := by omega
  rw [Nat.add_zero, tailB, if_neg hk1] at e0'
  rw [tailB, if_neg hk1] at e1'
  rcases (h.2 i hi).2 with q | q
  · exact absurd q.1 hk1
  · exact le2_of e0' e1' ⟨by have := q.2.2; omega, by have := q.2.2; omega⟩
theorem nod_tx (h : nodeOK k es) : txOK k (nodL k es) es.length := fun i hi => by
  obtain ⟨⟨hs, -⟩, he⟩ := h.2 i hi
  refine ⟨by rw [(nod_key h i hi).1]; omega, fun hk => ?_⟩
  rw [(nod_val h hk i hi).1]
  have := he.val hk
  omega
theorem nod_ents (h : nodeOK k es) : rdN k (nodL k es) es.length = es := by
  apply List.ext_getElem?
  intro i
  by_cases hi : i < es.length
  · have q := rdN_get k (nodL k es) es.length i hi
    have e : rdE k (nodL k es) i = es.getD i e0 := by
      unfold rdE
      rcases h.kind.1 with hk | hk
      · rw [if_pos hk, (nod_key h i hi).2, (nod_val h hk i hi).2]
        rcases (h.2 i hi).2 with q | q
        · rw [← q.2.2]
        · exact absurd q.1 (by omega)
      · have hk1 : ¬ k = 1 := by omega
        rw [if_neg hk1, (nod_key h i hi).2, nod_child h hk i hi]
        rcases (h.2 i hi).2 with q | q
        · exact absurd q.1 hk1
        · rw [← q.2.1]
    rw [e] at q
    have hk2 : i < (rdN k (nodL k es) es.length).length := by rw [rdN_length]; exact hi
    simp only [List.getD_eq_getElem?_getD, List.getElem?_eq_getElem hi, List.getElem?_eq_getElem hk2, Option.getD_some] at q ⊢
    rw [q]
  · rw [List.getElem?_eq_none (by rw [rdN_length]; omega), List.getElem?_eq_none (by omega)]
end

/-- a node's form in memory -/
def NodR (B : Nat) (k : Int) (es : List E3) (w : World) (v : Value) : Prop := ∃ a c, v = .agg #[.int .i64 k, .int .i64 es.length, .slice a es.length c] ∧ NRead w (.slice a es.length c) es ∧ Fsh B a

set_option maxRecDepth 100000 in
set_option maxHeartbeats 1000000 in
theorem readForm_L (n : Nat) (hn : n ≤ 5) (zs : List Int) (hl : zs.length = 128) (hz : Byt zs) (h3 : zs.getD 0 0 = 1) (hm : zs.getD 1 0 = n) (htx : txOK 1 zs n) (w : World) :
    Calls Tryz.prog 47 #[.agg (u8s zs)] w fun e w' => (∃ a c, e = .returned (.tuple #[.iface 75 (.agg #[.int .i64 1, .int .i64 n, .slice a n c]), .nilIface]) ∧ NRead w' (.slice a (rdN 1 zs n).length c) (rdN 1 zs n) ∧ Fsh w.heap.size a) ∧ Below w.heap.size w w' := by
  have hb0 := belowA w (.cells (u8s zs) 100)
  have hx : (w.alloc (.cells (u8s zs) 100)).heap[w.heap.size]? = some (.cells (u8s zs) 100 (0, 0)) := heap_alloc_new _ _
  have hR0 := rng_new w zs hl 100 w.heap.size rfl
  have b0 := hR0.2 0 (by omega)
  have b1 := hR0.2 1 (by omega)
  rw [h3] at b0
  rw [hm] at b1
  simp only [Nat.zero_add] at b0 b1
  have hs0 : w.heap.size < (w.alloc (.cells (u8s zs) 100)).heap.size := by simp
  have hz0 : (w.alloc (.cells (u8s zs) 100)).heap.size = w.heap.size + 1 := by simp
  have HT : Hid _ := fun w => readLeaf_any n (by omega) zs hl hz htx w
  have hw : IntKind.i64.wrap (n : Int) = (n : Int) := IntWalk.i64_in _ ⟨by omega, by omega⟩
  go_enter Tryz.func47, Tryz.ntmps47
  go_wp2_with fail
  refine (checkNumber_ok 1 _ (.inl ⟨rfl, by omega, by omega⟩) _).mono ?_
  rintro e w1 ⟨rfl, hb1⟩
  have hx1 : w1.heap[w.heap.size]? = some (.cells (u8s zs) 100 (0, 0)) := (hb1.block _ (by simp; omega)).trans (((belowA _ _).block _ hs0).trans hx)
  have hy0 := heap_alloc_new (w.alloc (.cells (u8s zs) 100)) (.cells #[.int .i64 1, .int .i64 n] 73)
  rw [hz0] at hy0
  have hy1 := (hb1.block _ (by simp)).trans hy0
  obtain ⟨p0, p1, -, -⟩ := row2 hy1
  have hR : Rng8 w1 w.heap.size 0 zs := ⟨hl, fun i hi => by
    rw [Nat.zero_add, cell_of_row w1 _ i _ _ _ hx1]
    simp [u8s, show i < zs.length by omega]⟩
  have hB0 := hb0.trans ((belowA (w.alloc (.cells (u8s zs) 100)) (.cells #[.int .i64 1, .int .i64 n] 73)).mono hb0.size)
  have hB1 := hB0.trans (hb1.mono hB0.size)
  clear hb0 hb1 hB0 hx hx1 hy0 hy1 b0 b1 hs0 hz0 hR0
  go_wp2_with (first | ((with_reducible refine wpList_load128 hR ?_ ?_); exact ⟨rfl, _, rfl, rfl⟩))
  refine (HT.out _).mono ?_
  rintro e w2 ⟨⟨a, c, rfl, hrr, hfs⟩, hb2⟩
  have HR : Hid _ := hrr
  have HF : Hid (Fsh w.heap.size a) := fun p hp => Nat.le_trans hB1.size (hfs p hp)
  have hB2 := hB1.trans (hb2.mono hB1.size)
  clear hrr hR p0 p1 hfs
  go_wp2
  exact bodyPost_ret (v := .tuple #[.iface 75 (.agg #[.int .i64 1, .int .i64 n, .slice a n c]), .nilIface]) (by simp [results, Tryz.results47, go_sem]) rfl ⟨⟨_, _, rfl, HR.out, HF.out⟩, hB2⟩

theorem methodCheckL (v : Value) (w : World) : (Go.method 284 75 v "loop.example/s01595/impl.check").run Tryz.prog w = .ok (93, v) w := by kernel_rfl
theorem methodLayL (v : Value) (w : World) : (Go.method 284 75 v "loop.example/s01595/impl.lay").run Tryz.prog w = .ok (94, v) w := by kernel_rfl
theorem leafFrmd (B : Nat) {es : List E3} (h : nodeOK 1 es) : Frmd 75 93 94 (NodR B 1 es) (layN 1 es es.length) where
  keep := fun w w' v ⟨a, c, e, hr, hf⟩ hb => ⟨a, c, e, hr.below hb, hf⟩
  mC := methodCheckL
  mL := methodLayL
  eC := enters Tryz.func93 (by kernel_rfl) rfl
  eL := enters Tryz.func94 (by kernel_rfl) rfl
  check := fun w v ⟨a, c, e, hr, _⟩ => by subst e; exact leafCheck a c es h w hr
  lay := fun w v ⟨a, c, e, hr, _⟩ => by subst e; exact leafLay a c es h w hr
  len := layN_length h
  byt := layN_byt h
theorem decodeForm_L {es : List E3} (h : nodeOK 1 es) (b off c : Nat) (w : World) (hv : Bts w (.slice (some ⟨b, off, none⟩) 128 c) (nodL 1 es)) :
    Calls Tryz.prog 31 #[.slice (some ⟨b, off, none⟩) 128 c] w fun e w' => (∃ v, e = .returned (.tuple #[.iface 75 v, .nilIface]) ∧ NodR w.heap.size 1 es w' v) ∧ Below w.heap.size w w' := by
  have hF := leafFrmd w.heap.size h
  have h5 := h.kind.2
  rw [← nodL_uns h] at hF
  have hp : (nodQ 1 es es.length).length ≤ 124 := by rw [nodQ_length h _ (Nat.le_refl _)]; omega
  refine decodeForm_gen hF (nodL_length h) (nodL_byt h) (sealL_sld _ hp) b off c w (fun w1 hw1 => ?_) hv
  refine (readForm_L es.length (by rcases h.1 with q | q <;> omega) _ (nodL_length h) (nodL_byt h) (nod_head h).1 (nod_head h).2 (nod_tx h) w1).mono ?_
  rintro e w' ⟨⟨a, c, rfl, hr, hf⟩, hb⟩
  rw [nod_ents h] at hr
  exact ⟨⟨_, rfl, a, c, rfl, hr, fun p hp => Nat.le_trans hw1 (hf p hp)⟩, hb⟩

set_option maxRecDepth 100000 in
set_option maxHeartbeats 1000000 in
theorem readForm_I (n : Nat) (hn : 2 ≤ n ∧ n ≤ 5) (zs : List Int) (hl : zs.length = 128) (hz : Byt zs) (h3 : zs.getD 0 0 = 2) (hm : zs.getD 1 0 = n) (htx : txOK 2 zs n) (w : World) :
    Calls Tryz.prog 47 #[.agg (u8s zs)] w fun e w' => (∃ a c, e = .returned (.tuple #[.iface 76 (.agg #[.int .i64 2, .int .i64 n, .slice a n c]), .nilIface]) ∧ NRead w' (.slice a (rdN 2 zs n).length c) (rdN 2 zs n) ∧ Fsh w.heap.size a) ∧ Below w.heap.size w w' := by
  have hb0 := belowA w (.cells (u8s zs) 100)
  have hx : (w.alloc (.cells (u8s zs) 100)).heap[w.heap.size]? = some (.cells (u8s zs) 100 (0, 0)) := heap_alloc_new _ _
  have hR0 := rng_new w zs hl 100 w.heap.size rfl
  have b0 := hR0.2 0 (by omega)
  have b1 := hR0.2 1 (by omega)
  rw [h3] at b0
  rw [hm] at b1
  simp only [Nat.zero_add] at b0 b1
  have hs0 : w.heap.size < (w.alloc (.cells (u8s zs) 100)).heap.size := by simp
  have hz0 : (w.alloc (.cells (u8s zs) 100)).heap.size = w.heap.size + 1 := by simp
  have HT : Hid _ := fun w => readInner_any n (by omega) zs hl hz htx w
  have hw : IntKind.i64.wrap (n : Int) = (n : Int) := IntWalk.i64_in _ ⟨by omega, by omega⟩
  go_enter Tryz.func47, Tryz.ntmps47
  go_wp2_with fail
  refine (checkNumber_ok 2 _ (.inr (.inl ⟨rfl, by omega, by omega⟩)) _).mono ?_
  rintro e w1 ⟨rfl, hb1⟩
  have hx1 : w1.heap[w.heap.size]? = some (.cells (u8s zs) 100 (0, 0)) := (hb1.block _ (by simp; omega)).trans (((belowA _ _).block _ hs0).trans hx)
  have hy0 := heap_alloc_new (w.alloc (.cells (u8s zs) 100)) (.cells #[.int .i64 2, .int .i64 n] 73)
  rw [hz0] at hy0
  have hy1 := (hb1.block _ (by simp)).trans hy0
  obtain ⟨p0, p1, -, -⟩ := row2 hy1
  have hR : Rng8 w1 w.heap.size 0 zs := ⟨hl, fun i hi => by
    rw [Nat.zero_add, cell_of_row w1 _ i _ _ _ hx1]
    simp [u8s, show i < zs.length by omega]⟩
  have hB0 := hb0.trans ((belowA (w.alloc (.cells (u8s zs) 100)) (.cells #[.int .i64 2, .int .i64 n] 73)).mono hb0.size)
  have hB1 := hB0.trans (hb1.mono hB0.size)
  clear hb0 hb1 hB0 hx hx1 hy0 hy1 b0 b1 hs0 hz0 hR0
  go_wp2_with (first | ((with_reducible refine wpList_load128 hR ?_ ?_); exact ⟨rfl, _, rfl, rfl⟩))
  refine (HT.out _).mono ?_
  rintro e w2 ⟨⟨a, c, rfl, hrr, hfs⟩, hb2⟩
  have HR : Hid _ := hrr
  have HF : Hid (Fsh w.heap.size a) := fun p hp => Nat.le_trans hB1.size (hfs p hp)
  have hB2 := hB1.trans (hb2.mono hB1.size)
  clear hrr hR p0 p1 hfs
  go_wp2
  exact bodyPost_ret (v := .tuple #[.iface 76 (.agg #[.int .i64 2, .int .i64 n, .slice a n c]), .nilIface]) (by simp [results, Tryz.results47, go_sem]) rfl ⟨⟨_, _, rfl, HR.out, HF.out⟩, hB2⟩

theorem methodCheckI (v : Value) (w : World) : (Go.method 284 76 v "loop.example/s01595/impl.check").run Tryz.prog w = .ok (97, v) w := by kernel_rfl
theorem methodLayI (v : Value) (w : World) : (Go.method 284 76 v "loop.example/s01595/impl.lay").run Tryz.prog w = .ok (98, v) w := by kernel_rfl
theorem innerFrmd (B : Nat) {es : List E3} (h : nodeOK 2 es) : Frmd 76 97 98 (NodR B 2 es) (layN 2 es es.length) where
  keep := fun w w' v ⟨a, c, e, hr, hf⟩ hb => ⟨a, c, e, hr.below hb, hf⟩
  mC := methodCheckI
  mL := methodLayI
  eC := enters Tryz.func97 (by kernel_rfl) rfl
  eL := enters Tryz.func98 (by kernel_rfl) rfl
  check := fun w v ⟨a, c, e, hr, _⟩ => by subst e; exact innerCheck a c es h w hr
  lay := fun w v ⟨a, c, e, hr, _⟩ => by subst e; exact innerLay a c es h w hr
  len := layN_length h
  byt := layN_byt h
theorem decodeForm_I {es : List E3} (h : nodeOK 2 es) (b off c : Nat) (w : World) (hv : Bts w (.slice (some ⟨b, off, none⟩) 128 c) (nodL 2 es)) :
    Calls Tryz.prog 31 #[.slice (some ⟨b, off, none⟩) 128 c] w fun e w' => (∃ v, e = .returned (.tuple #[.iface 76 v, .nilIface]) ∧ NodR w.heap.size 2 es w' v) ∧ Below w.heap.size w w' := by
  have hF := innerFrmd w.heap.size h
  have h5 := h.kind.2
  rw [← nodL_uns h] at hF
  have hp : (nodQ 2 es es.length).length ≤ 124 := by rw [nodQ_length h _ (Nat.le_refl _)]; omega
  refine decodeForm_gen hF (nodL_length h) (nodL_byt h) (sealL_sld _ hp) b off c w (fun w1 hw1 => ?_) hv
  refine (readForm_I es.length (by rcases h.1 with q | q <;> omega) _ (nodL_length h) (nodL_byt h) (nod_head h).1 (nod_head h).2 (nod_tx h) w1).mono ?_
  rintro e w' ⟨⟨a, c, rfl, hr, hf⟩, hb⟩
  rw [nod_ents h] at hr
  exact ⟨⟨_, rfl, a, c, rfl, hr, fun p hp => Nat.le_trans hw1 (hf p hp)⟩, hb⟩
end Go.Proofs.YtfbjagjgofdheaaGreatDoor

namespace Go.Proofs.YtfbjagjgofdheaaGreatDoor
open Go.RowKit
set_option linter.unusedVariables false

/-- the two sentinels that codeOf asks for, apart -/
structure Two (w : World) (a s : Addr) : Prop where
  size : w.cell? ⟨1, 0, none⟩ = some (.iface 146 (.pointer (some a)))
  sum : w.cell? ⟨2, 0, none⟩ = some (.iface 146 (.pointer (some s)))
  oa : ∃ c t, w.heap[a.block]? = some (.cells c t (0, 0))
  os : ∃ c t, w.heap[s.block]? = some (.cells c t (0, 0))
  ne : s ≠ a

theorem Two.below {w w' : World} {a s : Addr} (h : Two w a s) (k : Below w.heap.size w w') : Two w' a s := by
  refine ⟨(k.cell (p := ⟨1, 0, none⟩) (World.block_lt_of_cell? _ _ h.size)).trans h.size, (k.cell (p := ⟨2, 0, none⟩) (World.block_lt_of_cell? _ _ h.sum)).trans h.sum, ?_, ?_, h.ne⟩
  · obtain ⟨c, t, e⟩ := h.oa
    exact ⟨c, t, (k.block _ (Array.getElem?_eq_some_iff.1 e).1).trans e⟩
  · obtain ⟨c, t, e⟩ := h.os
    exact ⟨c, t, (k.block _ (Array.getElem?_eq_some_iff.1 e).1).trans e⟩

set_option maxHeartbeats 2000000 in
theorem codeOf_sum {w : World} {a s : Addr} (hT : Two w a s) {v : Value} (hv : Flt w s v) :
    Calls Tryz.prog 29 #[v] w fun e w' => e = .returned (.int .i64 6) ∧ Below w.heap.size w w' := by
  have hb0 : Below w.heap.size w (w.alloc (.cells #[.pointer none] 92)) := (Below.refl _ _).alloc (Nat.le_refl _) _
  have hT1 := hT.below hb0
  obtain ⟨pb, hve, h1⟩ := hv
  have h2 : (w.alloc (.cells #[.pointer none] 92)).cell? ⟨pb, 0 + 1, none⟩ = some (.iface 146 (.pointer (some s))) := (hb0.cell (p := ⟨pb, 0 + 1, none⟩) (World.block_lt_of_cell? _ _ h1)).trans h1
  have HV : Hid _ := h2
  have c1 := hT1.size
  have c2 := hT1.sum
  obtain ⟨ca, ta, ea⟩ := hT1.oa
  obtain ⟨cs, ts, es⟩ := hT1.os
  have HEA : Hid _ := ea
  have HES : Hid _ := es
  have HNE : Hid (s ≠ a) := hT.ne
  subst hve
  have hnil := fun w => run_eql_iface_nil (P := Tryz.prog) (w := w) 65 (by kernel_rfl) 92 (.pointer (some ⟨pb, 0, none⟩))
  clear h1 h2 ea es hT hT1
  go_enter Tryz.func29, Tryz.ntmps29
  go_wp2_with fail
  refine (is_wrap_other pb 0 a s cs ca ts ta _ HV.out HNE.out HES.out HEA.out).mono ?_
  rintro e w' ⟨rfl, rfl⟩
  go_wp2_with fail
  refine (is_wrap_same pb 0 s _ HV.out).mono ?_
  rintro e w' ⟨rfl, rfl⟩
  go_wp2
  go_ret
  exact ⟨rfl, hb0⟩

set_option maxRecDepth 100000 in
set_option maxHeartbeats 1000000 in
theorem implDecT_sum (zs : List Int) (hl : zs.length = 128) (hz : Byt zs) (hne : ¬ putL zs 124 (crcOf (zs.take 124)) 4 = zs) {a s : Addr} (b off c : Nat) (w : World) (hT : Two w a s) (hv : Bts w (.slice (some ⟨b, off, none⟩) 128 c) zs) :
    Calls Tryz.prog 12 #[.slice (some ⟨b, off, none⟩) 128 c] w fun e w' => e = .returned (.tuple #[.agg #[.int .i64 0, .slice none 0 0], .int .i64 6]) ∧ Below w.heap.size w w' := by
  have hb0 := belowA w (.cells #[.int .i64 0, .slice none 0 0] 34)
  have hx : (w.alloc (.cells #[.int .i64 0, .slice none 0 0] 34)).heap[w.heap.size]? = some (.cells #[.int .i64 0, .slice none 0 0] 34 (0, 0)) := heap_alloc_new _ _
  have HV : Hid (Bts _ _ _) := hv.below hb0
  have HT0 : Hid (Two _ _ _) := hT.below hb0
  clear hv
  go_enter Tryz.func12, Tryz.ntmps12
  go_wp2_with fail
  refine (decodeForm_sum zs hl hz hne s b off c _ HT0.out.sum HV.out).mono ?_
  rintro e w1 ⟨⟨pb, rfl, hpe⟩, hb1⟩
  have hx1 := (hb1.block _ (Array.getElem?_eq_some_iff.1 hx).1).trans hx
  have hB1 := hb0.trans (hb1.mono hb0.size)
  have HPE : Hid (Flt w1 s (.iface 92 (.pointer (some ⟨pb, 0, none⟩)))) := ⟨pb, rfl, hpe⟩
  have hnil := fun w => run_neq_iface_nil (P := Tryz.prog) (w := w) 65 (by kernel_rfl) 92 (.pointer (some ⟨pb, 0, none⟩))
  clear hb0 hx hb1 HV HT0 hpe
  go_wp2_with fail
  refine (codeOf_sum (hT.below hB1) HPE.out).mono ?_
  rintro e w2 ⟨rfl, hb2⟩
  have hx2 := (hb2.block _ (Array.getElem?_eq_some_iff.1 hx1).1).trans hx1
  have hB2 := hB1.trans (hb2.mono hB1.size)
  obtain ⟨r0, r1, r2, r3⟩ := row2 hx2
  have hB3 := fun y z => (hB2.setCell (p := ⟨w.heap.size, 0, none⟩) (Nat.le_refl _) y).setCell (p := ⟨w.heap.size, 1, none⟩) (Nat.le_refl _) z
  clear hx1 hx2 hB1 hb2 hB2 hT
  go_wp2
  exact bodyPost_ret (v := .tuple #[.agg #[.int .i64 0, .slice none 0 0], .int .i64 6]) (by simp [results, Tryz.results12, go_sem, r0, r1]) rfl ⟨rfl, hB3 _ _⟩
end Go.Proofs.YtfbjagjgofdheaaGreatDoor

namespace Go.Proofs.YtfbjagjgofdheaaGreatDoor
open Go.RowKit
set_option linter.unusedVariables false

set_option maxRecDepth 100000 in
set_option maxHeartbeats 2000000 in
theorem implEncT_ok {nx : Int} {rs : List R3} (h : tbOK nx rs) (a : Option Addr) (c : Nat) (w : World) (hv : RRead w (.slice a rs.length c) rs) :
    Calls Tryz.prog 11 #[.agg #[.int .i64 nx, .slice a rs.length c]] w fun e w' => ∃ g, e = .returned (.tuple #[.slice (some ⟨g, 0, none⟩) 128 128, .int .i64 0]) ∧ w.heap.size ≤ g ∧ Arr w' g (tabL nx rs) ∧ Below w.heap.size w w' := by
  have hF := tabFrmd 0 h
  have hn : rs.length ≤ 20 := by have := h.2.1; omega
  have hb0 := belowA w (.cells #[.int .i64 nx, .slice a rs.length c] 34)
  have hX : (w.alloc (.cells #[.int .i64 nx, .slice a rs.length c] 34)).heap[w.heap.size]? = some (.cells #[.int .i64 nx, .slice a rs.length c] 34 (0, 0)) := heap_alloc_new w _
  have HCELL : Hid (∀ W : World, W.heap[w.heap.size]? = some (.cells #[.int .i64 nx, .slice a rs.length c] 34 (0, 0)) → W.cell? ⟨w.heap.size, 0, none⟩ = some (.int .i64 nx) ∧ W.cell? ⟨w.heap.size, 1, none⟩ = some (.slice a rs.length c)) := fun W h => by
    simp [World.cell?, h]
  have e0 := HCELL.out _ hX
  have HX : Hid _ := hX
  have hs0 : w.heap.size < (w.alloc (.cells #[.int .i64 nx, .slice a rs.length c] 34)).heap.size := by simp
  go_enter Tryz.func11, Tryz.ntmps11
  go_wp2_with fail
  generalize w.alloc (.cells #[.int .i64 nx, .slice a rs.length c] 34) = W0 at *
  have HB0 : Hid (Below w.heap.size w W0) := hb0
  have HS0 : Hid (w.heap.size < W0.heap.size) := hs0
  have HF : Hid _ := hF
  have HV : Hid (RRead w (.slice a rs.length c) rs) := hv
  clear hb0 hs0 hX hF hv
  obtain ⟨d0, d1⟩ := e0
  go_region_held3 (fun W => W.cell? ⟨w.heap.size, 0, none⟩ = some (.int .i64 nx) ∧ W.cell? ⟨w.heap.size, 1, none⟩ = some (.slice a rs.length c)) (first | go_keep | assumption)
    ((first
      | (go_at_call 34; refine (headerOf_any 3 rs.length (by omega) W0.drew).mono ?_; rintro e w1 ⟨rfl, hb1⟩; have hx1 := (hb1.block _ HS0.out).trans HX.out; have hk1 := HCELL.out w1 hx1)
      | (go_at_call 30; have hbw1 := HB0.out.drew.trans (hb1.mono HB0.out.size); refine (encodeForm_gen HF.out _ w1 ⟨a, c, rfl, HV.out.below hbw1, fun _ _ => Nat.zero_le _⟩).mono ?_; rintro e w2 ⟨g, rfl, hg, hA, hb2⟩; have hk2 := HCELL.out w2 ((hb2.block _ (Nat.lt_of_lt_of_le HS0.out hb1.size)).trans hx1))))
  have hB2 := hbw1.trans (hb2.mono hbw1.size)
  rw [layP_seal nx rs h.2.1] at hA
  have HA : Hid (Arr w2 g (tabL nx rs)) := hA
  have hg2 : w.heap.size ≤ g := Nat.le_trans hbw1.size hg
  clear hk1 hk2 hA hb2 hbw1 hb1 hx1 d0 d1
  go_wp2_with fail
  refine (codeOf_nil _).mono ?_
  rintro e w3 ⟨rfl, hb3⟩
  have HA3 : Hid (Arr w3 g (tabL nx rs)) := HA.out.below hb3
  have hB3 := hB2.trans (hb3.mono hB2.size)
  go_wp2
  exact bodyPost_ret (v := .tuple #[.slice (some ⟨g, 0, none⟩) 128 128, .int .i64 0]) (by simp [results, Tryz.results11, go_sem]) rfl ⟨g, rfl, hg2, HA3.out, hB3⟩

set_option maxRecDepth 100000 in
set_option maxHeartbeats 2000000 in
theorem implEncS_ok {N g1 nx tb : Int} {rs : List R2} (h : spOK N g1 nx tb rs) (a : Option Addr) (c : Nat) (w : World) (hv : TRead w (.slice a rs.length c) rs) :
    Calls Tryz.prog 16 #[.agg #[.int .i64 N, .int .i64 g1, .int .i64 nx, .int .i64 tb, .slice a rs.length c]] w fun e w' => ∃ g, e = .returned (.tuple #[.slice (some ⟨g, 0, none⟩) 128 128, .int .i64 0]) ∧ w.heap.size ≤ g ∧ Arr w' g (supL N g1 nx tb rs) ∧ Below w.heap.size w w' := by
  have hF := supFrmd 0 h
  have hn : rs.length ≤ 20 := by have := h.2.1.2; omega
  have hb0 := belowA w (.cells #[.int .i64 N, .int .i64 g1, .int .i64 nx, .int .i64 tb, .slice a rs.length c] 41)
  have hX : (w.alloc (.cells #[.int .i64 N, .int .i64 g1, .int .i64 nx, .int .i64 tb, .slice a rs.length c] 41)).heap[w.heap.size]? = some (.cells #[.int .i64 N, .int .i64 g1, .int .i64 nx, .int .i64 tb, .slice a rs.length c] 41 (0, 0)) := heap_alloc_new w _
  have HCELL : Hid (∀ W : World, W.heap[w.heap.size]? = some (.cells #[.int .i64 N, .int .i64 g1, .int .i64 nx, .int .i64 tb, .slice a rs.length c] 41 (0, 0)) → W.cell? ⟨w.heap.size, 0, none⟩ = some (.int .i64 N) ∧ W.cell? ⟨w.heap.size, 1, none⟩ = some (.int .i64 g1) ∧ W.cell? ⟨w.heap.size, 2, none⟩ = some (.int .i64 nx) ∧ W.cell? ⟨w.heap.size, 3, none⟩ = some (.int .i64 tb) ∧ W.cell? ⟨w.heap.size, 4, none⟩ = some (.slice a rs.length c)) := fun W h => by
    simp [World.cell?, h]
  have e0 := HCELL.out _ hX
  have HX : Hid _ := hX
  have hs0 : w.heap.size < (w.alloc (.cells #[.int .i64 N, .int .i64 g1, .int .i64 nx, .int .i64 tb, .slice a rs.length c] 41)).heap.size := by simp
  go_enter Tryz.func16, Tryz.ntmps16
  go_wp2_with fail
  generalize w.alloc (.cells #[.int .i64 N, .int .i64 g1, .int .i64 nx, .int .i64 tb, .slice a rs.length c] 41) = W0 at *
  have HB0 : Hid (Below w.heap.size w W0) := hb0
  have HS0 : Hid (w.heap.size < W0.heap.size) := hs0
  have HF : Hid _ := hF
  have HV : Hid (TRead w (.slice a rs.length c) rs) := hv
  clear hb0 hs0 hX hF hv
  obtain ⟨d0, d1, d2, d3, d4⟩ := e0
  go_region_held3 (fun W => W.cell? ⟨w.heap.size, 0, none⟩ = some (.int .i64 N) ∧ W.cell? ⟨w.heap.size, 1, none⟩ = some (.int .i64 g1) ∧ W.cell? ⟨w.heap.size, 2, none⟩ = some (.int .i64 nx) ∧ W.cell? ⟨w.heap.size, 3, none⟩ = some (.int .i64 tb) ∧ W.cell? ⟨w.heap.size, 4, none⟩ = some (.slice a rs.length c)) (first | go_keep | assumption)
    ((first
      | (go_at_call 34; refine (headerOf_any 4 rs.length (by omega) W0.drew).mono ?_; rintro e w1 ⟨rfl, hb1⟩; have hx1 := (hb1.block _ HS0.out).trans HX.out; have hk1 := HCELL.out w1 hx1)
      | (go_at_call 30; have hbw1 := HB0.out.drew.trans (hb1.mono HB0.out.size); refine (encodeForm_gen HF.out _ w1 ⟨a, c, rfl, HV.out.below hbw1, fun _ _ => Nat.zero_le _⟩).mono ?_; rintro e w2 ⟨g, rfl, hg, hA, hb2⟩; have hk2 := HCELL.out w2 ((hb2.block _ (Nat.lt_of_lt_of_le HS0.out hb1.size)).trans hx1))))
  have hB2 := hbw1.trans (hb2.mono hbw1.size)
  rw [layU_seal h.2.1.2] at hA
  have HA : Hid (Arr w2 g (supL N g1 nx tb rs)) := hA
  have hg2 : w.heap.size ≤ g := Nat.le_trans hbw1.size hg
  clear hk1 hk2 hA hb2 hbw1 hb1 hx1 d0 d1 d2 d3 d4
  go_wp2_with fail
  refine (codeOf_nil _).mono ?_
  rintro e w3 ⟨rfl, hb3⟩
  have HA3 : Hid (Arr w3 g (supL N g1 nx tb rs)) := HA.out.below hb3
  have hB3 := hB2.trans (hb3.mono hB2.size)
  go_wp2
  exact bodyPost_ret (v := .tuple #[.slice (some ⟨g, 0, none⟩) 128 128, .int .i64 0]) (by simp [results, Tryz.results16, go_sem]) rfl ⟨g, rfl, hg2, HA3.out, hB3⟩

set_option maxRecDepth 100000 in
set_option maxHeartbeats 2000000 in
theorem formOfNode_ok (k : Int) (hk : k = 1 ∨ k = 2) (a : Option Addr) (n c : Nat) (hn : n ≤ 5) (w : World) :
    Calls Tryz.prog 28 #[.agg #[.int .i64 k, .slice a n c]] w fun e w' => e = .returned (.tuple #[.iface (if k = 1 then 75 else 76) (.agg #[.int .i64 k, .int .i64 n, .slice a n c]), .nilIface]) ∧ Below w.heap.size w w' := by
  have hb0 := belowA w (.cells #[.int .i64 k, .slice a n c] 25)
  have hX : (w.alloc (.cells #[.int .i64 k, .slice a n c] 25)).heap[w.heap.size]? = some (.cells #[.int .i64 k, .slice a n c] 25 (0, 0)) := heap_alloc_new w _
  have hs0 : w.heap.size < (w.alloc (.cells #[.int .i64 k, .slice a n c] 25)).heap.size := by simp
  obtain ⟨x0, x1, -, -⟩ := row2 hX
  go_enter Tryz.func28, Tryz.ntmps28
  go_wp2_with fail
  refine (headerOf_any k n (by omega) _).mono ?_
  rintro e w1 ⟨rfl, hb1⟩
  have hX1 := (hb1.block _ hs0).trans hX
  have hB1 := hb0.trans (hb1.mono hb0.size)
  have hs1 : w.heap.size < w1.heap.size := Nat.lt_of_lt_of_le hs0 hb1.size
  have hX2 := fun o => ((belowA w1 o).block _ hs1).trans hX1
  have hB2 := fun o => hB1.trans ((belowA w1 o).mono hB1.size)
  obtain ⟨y0, y1, -, -⟩ := row2 (hX2 (.cells #[.int .i64 k, .int .i64 n] 73))
  clear hb0 hX hs0 x0 x1 hb1 hX1 hX2 hB1
  rcases hk with rfl | rfl
  · go_wp2
    exact bodyPost_ret (v := .tuple #[.iface 75 (.agg #[.int .i64 1, .int .i64 n, .slice a n c]), .nilIface]) (by simp [results, Tryz.results28, go_sem]) rfl ⟨rfl, hB2 _⟩
  · go_wp2
    exact bodyPost_ret (v := .tuple #[.iface 76 (.agg #[.int .i64 2, .int .i64 n, .slice a n c]), .nilIface]) (by simp [results, Tryz.results28, go_sem]) rfl ⟨rfl, hB2 _⟩

theorem encodeForm_N {k : Int} {es : List E3} (h : nodeOK k es) (a : Option Addr) (c : Nat) (w : World) (hv : NRead w (.slice a es.length c) es) :
    Calls Tryz.prog 30 #[.iface (if k = 1 then 75 else 76) (.agg #[.int .i64 k, .int .i64 es.length, .slice a es.length c])] w fun e w' => ∃ g, e = .returned (.tuple #[.slice (some ⟨g, 0, none⟩) 128 128, .nilIface]) ∧ w.heap.size ≤ g ∧ Arr w' g (nodL k es) ∧ Below w.heap.size w w' := by
  rcases h.kind.1 with rfl | rfl
  · have q := encodeForm_gen (leafFrmd 0 h) _ w ⟨a, c, rfl, hv, fun _ _ => Nat.zero_le _⟩
    rw [layN_seal h] at q
    exact q
  · have q := encodeForm_gen (innerFrmd 0 h) _ w ⟨a, c, rfl, hv, fun _ _ => Nat.zero_le _⟩
    rw [layN_seal h] at q
    exact q

set_option maxRecDepth 100000 in
set_option maxHeartbeats 2000000 in
theorem implEncN_ok {k : Int} {es : List E3} (h : nodeOK k es) (a : Option Addr) (c : Nat) (w : World) (hv : NRead w (.slice a es.length c) es) :
    Calls Tryz.prog 6 #[.agg #[.int .i64 k, .slice a es.length c]] w fun e w' => ∃ g, e = .returned (.tuple #[.slice (some ⟨g, 0, none⟩) 128 128, .int .i64 0]) ∧ w.heap.size ≤ g ∧ Arr w' g (nodL k es) ∧ Below w.heap.size w w' := by
  have hb0 := belowA w (.cells #[.int .i64 k, .slice a es.length c] 25)
  have hX : (w.alloc (.cells #[.int .i64 k, .slice a es.length c] 25)).heap[w.heap.size]? = some (.cells #[.int .i64 k, .slice a es.length c] 25 (0, 0)) := heap_alloc_new w _
  obtain ⟨x0, x1, -, -⟩ := row2 hX
  have HO : Hid (nodeOK k es) := h
  have HV : Hid (NRead w (.slice a es.length c) es) := hv
  have HK := fun w => formOfNode_ok k h.kind.1 a es.length c h.kind.2 w
  have HKH : Hid _ := HK
  have HE : Hid _ := fun w hv => encodeForm_N h a c w hv
  clear h hv hX HK
  generalize (if k = 1 then 75 else 76) = ty at *
  go_enter Tryz.func6, Tryz.ntmps6
  go_wp2_with fail
  refine (HKH.out _).mono ?_
  rintro e w1 ⟨rfl, hb1⟩
  have hB1 := hb0.trans (hb1.mono hb0.size)
  clear x0 x1 hb0 hb1
  go_wp2_with fail
  refine (HE.out w1 (HV.out.below hB1)).mono ?_
  rintro e w2 ⟨g, rfl, hg, hA, hb2⟩
  have HA : Hid (Arr w2 g (nodL k es)) := hA
  have hB2 := hB1.trans (hb2.mono hB1.size)
  have hg2 : w.heap.size ≤ g := Nat.le_trans hB1.size hg
  clear hA hb2 hB1
  go_wp2_with fail
  refine (codeOf_nil _).mono ?_
  rintro e w3 ⟨rfl, hb3⟩
  have HA3 : Hid (Arr w3 g (nodL k es)) := HA.out.below hb3
  have hB3 := hB2.trans (hb3.mono hB2.size)
  go_wp2
  exact bodyPost_ret (v := .tuple #[.slice (some ⟨g, 0, none⟩) 128 128, .int .i64 0]) (by simp [results, Tryz.results6, go_sem]) rfl ⟨g, rfl, hg2, HA3.out, hB3⟩
end Go.Proofs.YtfbjagjgofdheaaGreatDoor
