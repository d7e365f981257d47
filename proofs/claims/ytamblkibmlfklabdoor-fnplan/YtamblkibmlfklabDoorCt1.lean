import Derived.Test.YtamblkibmlfklabDoorRn2
namespace Go.Proofs.YtamblkibmlfklabDoor
open Go.RowKit

theorem infoRun' : (Tryd.prog.info? 58).map (fun i => (i.zero, i.size, i.bytes)) = some (some (.agg #[.int .i64 0, .int .i64 0, .int .i64 0]), 3, 24) := by kernel_rfl

/-- the first k runs laid, then noughts -/
def rnP (rs : List (Int × Int × Int)) (k : Nat) : List (Int × Int × Int) := rs.take k ++ List.replicate (rs.length - k) (0, 0, 0)
theorem rnP_length (rs : List (Int × Int × Int)) (k : Nat) (h : k ≤ rs.length) : (rnP rs k).length = rs.length := by simp [rnP]; omega
theorem rnP_zero (rs : List (Int × Int × Int)) : rnP rs 0 = List.replicate rs.length (0, 0, 0) := by simp [rnP]
theorem rnP_end (rs : List (Int × Int × Int)) : rnP rs rs.length = rs := by simp [rnP]
theorem rnP_step (rs : List (Int × Int × Int)) (k : Nat) (h : k < rs.length) : (rnP rs k).set k (rs.getD k (0, 0, 0)) = rnP rs (k + 1) := by
  unfold rnP
  have hl : (rs.take k).length = k := by simp; omega
  rw [List.set_append_right _ _ (by omega), hl, Nat.sub_self, show rs.length - k = (rs.length - (k + 1)) + 1 by omega, List.replicate_succ, List.set_cons_zero, List.take_succ_eq_append_getElem h]
  simp only [List.getD_eq_getElem?_getD, List.getElem?_eq_getElem h, Option.getD_some, List.append_assoc, List.cons_append, List.nil_append]

theorem madeRuns (n : Nat) (hn : n ≤ 1048576) (w : World) : ∃ cur, (Instr.makeSlice 26 (.int .i64 (n : Int)) (.int .i64 (n : Int))).run Tryd.prog w = .ok (.slice (some ⟨w.heap.size, 0, none⟩) n n) (w.alloc (.cells cur 58)) ∧
    ROwn w.heap.size (w.heap.size + 1) (w.alloc (.cells cur 58)) (.slice (some ⟨w.heap.size, 0, none⟩) n n) (List.replicate n (0, 0, 0)) := by
  obtain ⟨i, hi, hzz⟩ := Option.map_eq_some_iff.1 infoRun'
  simp only [Prod.mk.injEq] at hzz
  obtain ⟨hz, hs, hby⟩ := hzz
  have hr := run_make (P := Tryd.prog) w 26 58 i _ Tryd.underlying26 hi hz .i64 .i64 n n (by omega) (Int.le_refl _) (by rw [hby]; omega) (by omega)
  simp only [Int.toNat_natCast, hs] at hr
  refine ⟨_, hr, ?_⟩
  refine ⟨_, n, by simp, fun hp => ⟨w.heap.size, 0, rfl, Nat.le_refl _, Nat.lt_succ_self _, by simp, fun j => World.frozen?_alloc_at _ _ _ _ rfl, fun i hi => ?_⟩⟩
  simp only [List.length_replicate] at hi
  rw [Nat.zero_add, World.cell?_alloc_at _ _ _ _ rfl, World.cell?_alloc_at _ _ _ _ rfl, World.cell?_alloc_at _ _ _ _ rfl]
  have e : (List.replicate n ((0, 0, 0) : Int × Int × Int)).getD i (0, 0, 0) = (0, 0, 0) := by simp [hi]
  rw [e]
  have m0 : i * 3 < n * 3 := by omega
  have m1 : i * 3 + 1 < n * 3 := by omega
  have m2 : i * 3 + 2 < n * 3 := by omega
  have q1 : (i * 3 + 1) % 3 = 1 := by omega
  have q2 : (i * 3 + 2) % 3 = 2 := by omega
  simp [madeCells, Value.cells, m0, m1, m2, q1, q2]

end Go.Proofs.YtamblkibmlfklabDoor
