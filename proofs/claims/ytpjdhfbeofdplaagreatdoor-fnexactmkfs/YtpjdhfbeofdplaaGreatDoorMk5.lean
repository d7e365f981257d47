import Derived.Test.YtpjdhfbeofdplaaGreatDoorMk4
namespace Go.Proofs.YtpjdhfbeofdplaaGreatDoor
open Go.RowKit

section
variable (w : World)
theorem r0 : (Instr.build 68 #[(0, .int .i64 0), (1, .int .i64 2)]).run Tryz.prog w = .ok (.agg #[.int .i64 0, .int .i64 2]) w := by kernel_rfl
theorem r1 : (Instr.buildSlice 43 1 #[(0, .agg #[.int .i64 0, .int .i64 2])]).run Tryz.prog w = .ok (.slice (some ⟨w.heap.size, 0, none⟩) 1 1) (w.alloc (.cells #[.int .i64 0, .int .i64 2] 68)) := by kernel_rfl
theorem r2 : (Instr.makeMap 69 none).run Tryz.prog w = .ok (.map (some w.heap.size)) (w.alloc (.map #[] 0)) := rfl
theorem r3 : (Instr.build 54 #[(0, .int .i64 1)]).run Tryz.prog w = .ok (.agg #[.int .i64 1, .slice none 0 0]) w := by kernel_rfl
theorem r4 : (Instr.box 54 (.agg #[.int .i64 1, .slice none 0 0])).run Tryz.prog w = .ok (.pointer (some ⟨w.heap.size, 0, none⟩)) (w.alloc (.cells #[.int .i64 1, .slice none 0 0] 54)) := by kernel_rfl
theorem r8 (n : Nat) (hn : n ≤ 512) : (Instr.makeSlice 44 (.int .i64 (n : Int)) (.int .i64 (n : Int))).run Tryz.prog w = .ok (.slice (some ⟨w.heap.size, 0, none⟩) n n) (w.alloc (.cells (i64s (List.replicate n 0)) 2)) := by
  have h := run_make_row' (P := Tryz.prog) 44 2 (.int .i64 0) 8 Tryz.underlying44 info64 rfl .i64 .i64 n (by omega) (by omega) w
  have e : madeCells #[.int .i64 0] n = i64s (List.replicate n 0) := by
    apply Array.toList_inj.1
    rw [toList_madeCells_one]
    simp [i64s]
  rw [e] at h
  exact h
theorem r11 : (Instr.buildSlice 44 1 #[(0, .int .i64 3)]).run Tryz.prog w = .ok (.slice (some ⟨w.heap.size, 0, none⟩) 1 1) (w.alloc (.cells #[.int .i64 3] 2)) := by kernel_rfl
theorem r12 (r m c d q n : Nat) : (Instr.build 72 #[(0, .slice (some ⟨r, 0, none⟩) 1 1), (1, .int .i64 1), (2, .int .i64 1), (3, .map (some m)), (4, .slice (some ⟨c, 0, none⟩) n n), (5, .slice (some ⟨d, 0, none⟩) n n), (6, .slice (some ⟨q, 0, none⟩) 1 1)]).run Tryz.prog w = .ok (.agg #[.slice (some ⟨r, 0, none⟩) 1 1, .int .i64 1, .int .i64 1, .map (some m), .slice (some ⟨c, 0, none⟩) n n, .slice (some ⟨d, 0, none⟩) n n, .slice (some ⟨q, 0, none⟩) 1 1, .slice none 0 0]) w := by kernel_rfl
theorem r13 (r m c d q n : Nat) : (Instr.box 72 (.agg #[.slice (some ⟨r, 0, none⟩) 1 1, .int .i64 1, .int .i64 1, .map (some m), .slice (some ⟨c, 0, none⟩) n n, .slice (some ⟨d, 0, none⟩) n n, .slice (some ⟨q, 0, none⟩) 1 1, .slice none 0 0])).run Tryz.prog w = .ok (.pointer (some ⟨w.heap.size, 0, none⟩)) (w.alloc (.cells #[.slice (some ⟨r, 0, none⟩) 1 1, .int .i64 1, .int .i64 1, .map (some m), .slice (some ⟨c, 0, none⟩) n n, .slice (some ⟨d, 0, none⟩) n n, .slice (some ⟨q, 0, none⟩) 1 1, .slice none 0 0] 72)) := by kernel_rfl
end

theorem wp_value {P : Program} {o : Oper} {a : Act} {w w' : World} {v : Value} {K : Act → World → Prop} {Q : Exit → Act → World → Prop} (h : (execOp a.eval o).run P w = .ok (.value v) w') (hK : K (a.put o.dst v) w') : o.wp P a w K Q := by
  unfold Oper.wp; rw [h]; exact hK
theorem wp_skip {P : Program} {o : Oper} {a : Act} {w w' : World} {K : Act → World → Prop} {Q : Exit → Act → World → Prop} (h : (execOp a.eval o).run P w = .ok .skip w') (hK : K (a.put o.dst undef) w') : o.wp P a w K Q := by
  unfold Oper.wp; rw [h]; exact hK

theorem slice_ne {b b' : Nat} {n : Nat} (h : b ≠ b') : Value.slice (some ⟨b, 0, none⟩) n n ≠ Value.slice (some ⟨b', 0, none⟩) n n := fun e => by
  simp only [Value.slice.injEq, Option.some.injEq, Addr.mk.injEq, and_true] at e
  exact h e

/-- an array of 33 values, one by one -/
theorem arr33 (a : Array Value) (h : a.size = 33) : ∃ x0 x1 x2 x3 x4 x5 x6 x7 x8 x9 x10 x11 x12 x13 x14 x15 x16 x17 x18 x19 x20 x21 x22 x23 x24 x25 x26 x27 x28 x29 x30 x31 x32, a = #[x0, x1, x2, x3, x4, x5, x6, x7, x8, x9, x10, x11, x12, x13, x14, x15, x16, x17, x18, x19, x20, x21, x22, x23, x24, x25, x26, x27, x28, x29, x30, x31, x32] := by
  obtain ⟨l⟩ := a
  have h' : l.length = 33 := by simpa using h
  clear h
  obtain _ | ⟨x0, l⟩ := l
  · simp at h'
  obtain _ | ⟨x1, l⟩ := l
  · simp at h'
  obtain _ | ⟨x2, l⟩ := l
  · simp at h'
  obtain _ | ⟨x3, l⟩ := l
  · simp at h'
  obtain _ | ⟨x4, l⟩ := l
  · simp at h'
  obtain _ | ⟨x5, l⟩ := l
  · simp at h'
  obtain _ | ⟨x6, l⟩ := l
  · simp at h'
  obtain _ | ⟨x7, l⟩ := l
  · simp at h'
  obtain _ | ⟨x8, l⟩ := l
  · simp at h'
  obtain _ | ⟨x9, l⟩ := l
  · simp at h'
  obtain _ | ⟨x10, l⟩ := l
  · simp at h'
  obtain _ | ⟨x11, l⟩ := l
  · simp at h'
  obtain _ | ⟨x12, l⟩ := l
  · simp at h'
  obtain _ | ⟨x13, l⟩ := l
  · simp at h'
  obtain _ | ⟨x14, l⟩ := l
  · simp at h'
  obtain _ | ⟨x15, l⟩ := l
  · simp at h'
  obtain _ | ⟨x16, l⟩ := l
  · simp at h'
  obtain _ | ⟨x17, l⟩ := l
  · simp at h'
  obtain _ | ⟨x18, l⟩ := l
  · simp at h'
  obtain _ | ⟨x19, l⟩ := l
  · simp at h'
  obtain _ | ⟨x20, l⟩ := l
  · simp at h'
  obtain _ | ⟨x21, l⟩ := l
  · simp at h'
  obtain _ | ⟨x22, l⟩ := l
  · simp at h'
  obtain _ | ⟨x23, l⟩ := l
  · simp at h'
  obtain _ | ⟨x24, l⟩ := l
  · simp at h'
  obtain _ | ⟨x25, l⟩ := l
  · simp at h'
  obtain _ | ⟨x26, l⟩ := l
  · simp at h'
  obtain _ | ⟨x27, l⟩ := l
  · simp at h'
  obtain _ | ⟨x28, l⟩ := l
  · simp at h'
  obtain _ | ⟨x29, l⟩ := l
  · simp at h'
  obtain _ | ⟨x30, l⟩ := l
  · simp at h'
  obtain _ | ⟨x31, l⟩ := l
  · simp at h'
  obtain _ | ⟨x32, l⟩ := l
  · simp at h'
  have hl : l = [] := List.eq_nil_of_length_eq_zero (by simpa using h')
  subst hl
  exact ⟨x0, x1, x2, x3, x4, x5, x6, x7, x8, x9, x10, x11, x12, x13, x14, x15, x16, x17, x18, x19, x20, x21, x22, x23, x24, x25, x26, x27, x28, x29, x30, x31, x32, rfl⟩

/-- the committed counts of a fresh volume -/
def com1 (n : Nat) : List Int := ((List.replicate n 0).set 2 1).set 3 1

/-- a fresh forest lies at f -/
structure Fresh (B n : Nat) (w : World) (f r m p d q : Nat) : Prop where
  fst : ∃ c, w.heap[f]? = some (.cells #[.slice (some ⟨r, 0, none⟩) 1 1, .int .i64 1, .int .i64 1, .map (some m), .slice (some ⟨c, 0, none⟩) n n, .slice (some ⟨d, 0, none⟩) n n, .slice (some ⟨q, 0, none⟩) 1 1, .slice none 0 0] 72 (0, 0))
  root : w.heap[r]? = some (.cells #[.int .i64 0, .int .i64 2] 68 (0, 0))
  map : NMap w m p
  node : w.heap[p]? = some (.cells #[.int .i64 1, .slice none 0 0] 54 (0, 0))
  com : w.heap[d]? = some (.cells (i64s (com1 n)) 2 (0, 0))
  tab : w.heap[q]? = some (.cells #[.int .i64 3] 2 (0, 0))
  hf : B ≤ f
  hr : B ≤ r
  hm : B ≤ m
  hq : B ≤ q

set_option maxRecDepth 100000 in
set_option maxHeartbeats 8000000 in
theorem freshForest_any (n : Nat) (hn : 8 ≤ n ∧ n ≤ 512) (w : World) :
    Calls Tryz.prog 27 #[.int .i64 n] w fun e w' => ∃ f r m p d q, e = .returned (.pointer (some ⟨f, 0, none⟩)) ∧ Fresh w.heap.size n w' f r m p d q ∧ Below w.heap.size w w' := by
  go_enter Tryz.func27, Tryz.ntmps27
  go_wp2_with fail
  refine wp_region_any (by kernel_rfl) ?_
  refine wpAny_inv (FI w n) ?step ?fin (all_listed (ahead_of (by kernel_rfl))) _ _ _ _ (by simp) ?cl (by kernel_rfl) ?ini
  case cl => intro k hk; exfalso; simp [Array.getElem?_replicate] at hk; split at hk <;> simp at hk
  case ini =>
    refine ⟨rfl, rfl, rfl, (Below.refl _ _).drew, fun k hk => ?_, fun hk => ?_⟩
    · exfalso; simp [Array.getElem?_replicate] at hk; split at hk <;> simp at hk
    · exfalso; simp at hk
  case step =>
    intro l a w1 hs hcl hI i o ho hnt hnf hd
    have hs15 : l.size = 15 := hs
    have hi15 : i < 15 := by
      by_cases hh : i < 15
      · exact hh
      · rw [Array.getElem?_eq_none (by simpa using Nat.le_of_not_lt hh)] at ho; cases ho
    have ho0 := ho
    have hB := hI.below.size
    match i, hi15 with
    | 0, _ =>
      simp only [List.getElem?_toArray, List.getElem?_cons_zero, Option.some.injEq] at ho; subst ho
      refine wpOp_do ho0 rfl (wp_value (v := .agg #[.int .i64 0, .int .i64 2]) (w' := w1) (by simp only [execOp, Act.eval, List.map_toArray, List.map_cons, List.map_nil, Sem.run_bind, Sem.run_pure, Result.andThen_ok, r0]) ?_)
      exact hI.next (by kernel_rfl) hcl ho0 (by omega) hs15 hnf (by omega) 4 rfl (by omega) (by omega) _ _ (Below.refl _ _) (rfl) (hI.apart_keep 0 4 _ (by omega) (by omega) (by omega) (by omega))
    | 1, _ =>
      simp only [List.getElem?_toArray, List.getElem?_cons_zero, List.getElem?_cons_succ, Option.some.injEq] at ho; subst ho
      have l0 : l.getD 0 false = true := hd { on := 0, ground := .data } (by simp) rfl
      have f0 : a.tmps.getD 4 undef = .agg #[.int .i64 0, .int .i64 2] := hI.facts 0 l0
      refine wpOp_do ho0 rfl (wp_value (v := .slice (some ⟨w1.heap.size, 0, none⟩) 1 1) (w' := (w1.alloc (.cells #[.int .i64 0, .int .i64 2] 68))) (by simp only [execOp, Act.eval, List.map_toArray, List.map_cons, List.map_nil, Sem.run_bind, Sem.run_pure, Result.andThen_ok, f0, r1]) ?_)
      exact hI.next (by kernel_rfl) hcl ho0 (by omega) hs15 hnf (by omega) 5 rfl (by omega) (by omega) _ _ (belowA w1 _) (⟨_, rfl, hB, heap_alloc_new w1 _⟩) (hI.apart_keep 1 5 _ (by omega) (by omega) (by omega) (by omega))
    | 2, _ =>
      simp only [List.getElem?_toArray, List.getElem?_cons_zero, List.getElem?_cons_succ, Option.some.injEq] at ho; subst ho
      refine wpOp_do ho0 rfl (wp_value (v := .map (some w1.heap.size)) (w' := (w1.alloc (.map #[] 0))) (by simp only [execOp, Option.map_none, Sem.run_bind, Sem.run_pure, Result.andThen_ok, r2]) ?_)
      exact hI.next (by kernel_rfl) hcl ho0 (by omega) hs15 hnf (by omega) 6 rfl (by omega) (by omega) _ _ (belowA w1 _) (⟨_, rfl, hB, ⟨_, _, heap_alloc_new w1 _⟩, fun _ => heap_alloc_new w1 _⟩) (hI.apart_keep 2 6 _ (by omega) (by omega) (by omega) (by omega))
    | 3, _ =>
      simp only [List.getElem?_toArray, List.getElem?_cons_zero, List.getElem?_cons_succ, Option.some.injEq] at ho; subst ho
      refine wpOp_do ho0 rfl (wp_value (v := .agg #[.int .i64 1, .slice none 0 0]) (w' := w1) (by simp only [execOp, Act.eval, List.map_toArray, List.map_cons, List.map_nil, Sem.run_bind, Sem.run_pure, Result.andThen_ok, r3]) ?_)
      exact hI.next (by kernel_rfl) hcl ho0 (by omega) hs15 hnf (by omega) 7 rfl (by omega) (by omega) _ _ (Below.refl _ _) (rfl) (hI.apart_keep 3 7 _ (by omega) (by omega) (by omega) (by omega))
    | 4, _ =>
      simp only [List.getElem?_toArray, List.getElem?_cons_zero, List.getElem?_cons_succ, Option.some.injEq] at ho; subst ho
      have l3 : l.getD 3 false = true := hd { on := 3, ground := .data } (by simp) rfl
      have f3 : a.tmps.getD 7 undef = .agg #[.int .i64 1, .slice none 0 0] := hI.facts 3 l3
      refine wpOp_do ho0 rfl (wp_value (v := .pointer (some ⟨w1.heap.size, 0, none⟩)) (w' := (w1.alloc (.cells #[.int .i64 1, .slice none 0 0] 54))) (by simp only [execOp, Act.eval, Sem.run_bind, Sem.run_pure, Result.andThen_ok, f3, r4]) ?_)
      exact hI.next (by kernel_rfl) hcl ho0 (by omega) hs15 hnf (by omega) 8 rfl (by omega) (by omega) _ _ (belowA w1 _) (⟨_, rfl, hB, heap_alloc_new w1 _⟩) (hI.apart_keep 4 8 _ (by omega) (by omega) (by omega) (by omega))
    | 5, _ =>
      simp only [List.getElem?_toArray, List.getElem?_cons_zero, List.getElem?_cons_succ, Option.some.injEq] at ho; subst ho
      have l2 : l.getD 2 false = true := hd { on := 2, ground := .data } (by simp) rfl
      have l4 : l.getD 4 false = true := hd { on := 4, ground := .data } (by simp) rfl
      obtain ⟨m, f6, hm, _, he⟩ := hI.facts 2 l2
      obtain ⟨p, f8, _⟩ := hI.facts 4 l4
      have he' := he hnf
      obtain ⟨w2, hr, hN, hu⟩ := map_ins (p := p) he'
      simp only at f6 f8
      refine wpOp_do ho0 rfl (wp_skip (w' := w2) (by simp only [execOp, Act.eval, f6, f8, hr, Sem.run_bind, Sem.run_pure, Result.andThen_ok]) ?_)
      exact hI.ins (ops := #[]) hs15 hnf w2 m p f6 f8 hm hN hu he'
    | 6, _ =>
      simp only [List.getElem?_toArray, List.getElem?_cons_zero, List.getElem?_cons_succ, Option.some.injEq] at ho; subst ho
      have l2 : l.getD 2 false = true := hd { on := 2, ground := .data } (by simp) rfl
      obtain ⟨m, f6, _⟩ := hI.facts 2 l2
      simp only at f6
      refine wpOp_do ho0 rfl (wp_value (v := .map (some m)) (w' := w1) (by simp only [execOp, Act.eval, Sem.run_pure, f6]) ?_)
      exact hI.next (by kernel_rfl) hcl ho0 (by omega) hs15 hnf (by omega) 9 rfl (by omega) (by omega) _ _ (Below.refl _ _) (by show (_ : Value) = _; simpa using f6.symm) (hI.apart_keep 6 9 _ (by omega) (by omega) (by omega) (by omega))
    | 7, _ =>
      simp only [List.getElem?_toArray, List.getElem?_cons_zero, List.getElem?_cons_succ, Option.some.injEq] at ho; subst ho
      have fa := hI.arg
      refine wpOp_do ho0 rfl (wp_value (v := .int .i64 n) (w' := w1) (by simp only [execOp, Act.eval, Sem.run_pure, fa]) ?_)
      exact hI.next (by kernel_rfl) hcl ho0 (by omega) hs15 hnf (by omega) 10 rfl (by omega) (by omega) _ _ (Below.refl _ _) (rfl) (hI.apart_keep 7 10 _ (by omega) (by omega) (by omega) (by omega))
    | 8, _ =>
      simp only [List.getElem?_toArray, List.getElem?_cons_zero, List.getElem?_cons_succ, Option.some.injEq] at ho; subst ho
      have l7 : l.getD 7 false = true := hd { on := 7, ground := .data } (by simp) rfl
      have f7 : a.tmps.getD 10 undef = .int .i64 n := hI.facts 7 l7
      refine wpOp_do ho0 rfl (wp_value (v := .slice (some ⟨w1.heap.size, 0, none⟩) n n) (w' := (w1.alloc (.cells (i64s (List.replicate n 0)) 2))) (by simp only [execOp, Act.eval, Sem.run_bind, Sem.run_pure, Result.andThen_ok, f7, r8 _ n hn.2]) ?_)
      exact hI.next (by kernel_rfl) hcl ho0 (by omega) hs15 hnf (by omega) 11 rfl (by omega) (by omega) _ _ (belowA w1 _) (⟨_, rfl, hB, heap_alloc_new w1 _⟩) (fun _ h10 => by
        rw [getD_set_ne false (show (8 : Nat) ≠ 10 by omega)] at h10
        obtain ⟨d, f13, _, hd2⟩ := hI.facts 10 h10
        have f13' : a.tmps.getD 13 undef = .slice (some ⟨d, 0, none⟩) n n := f13
        rw [if_pos rfl, if_neg (by omega), f13']
        exact slice_ne (fun e => by have := (Array.getElem?_eq_some_iff.1 hd2).1; omega))
    | 9, _ =>
      simp only [List.getElem?_toArray, List.getElem?_cons_zero, List.getElem?_cons_succ, Option.some.injEq] at ho; subst ho
      have fa := hI.arg
      refine wpOp_do ho0 rfl (wp_value (v := .int .i64 n) (w' := w1) (by simp only [execOp, Act.eval, Sem.run_pure, fa]) ?_)
      exact hI.next (by kernel_rfl) hcl ho0 (by omega) hs15 hnf (by omega) 12 rfl (by omega) (by omega) _ _ (Below.refl _ _) (rfl) (hI.apart_keep 9 12 _ (by omega) (by omega) (by omega) (by omega))
    | 10, _ =>
      simp only [List.getElem?_toArray, List.getElem?_cons_zero, List.getElem?_cons_succ, Option.some.injEq] at ho; subst ho
      have l9 : l.getD 9 false = true := hd { on := 9, ground := .data } (by simp) rfl
      have f9 : a.tmps.getD 12 undef = .int .i64 n := hI.facts 9 l9
      refine wpOp_do ho0 rfl (wp_value (v := .slice (some ⟨w1.heap.size, 0, none⟩) n n) (w' := (w1.alloc (.cells (i64s (List.replicate n 0)) 2))) (by simp only [execOp, Act.eval, Sem.run_bind, Sem.run_pure, Result.andThen_ok, f9, r8 _ n hn.2]) ?_)
      exact hI.next (by kernel_rfl) hcl ho0 (by omega) hs15 hnf (by omega) 13 rfl (by omega) (by omega) _ _ (belowA w1 _) (⟨_, rfl, hB, heap_alloc_new w1 _⟩) (fun h8 _ => by
        rw [getD_set_ne false (show (10 : Nat) ≠ 8 by omega)] at h8
        obtain ⟨c, f11, _, hc2⟩ := hI.facts 8 h8
        have f11' : a.tmps.getD 11 undef = .slice (some ⟨c, 0, none⟩) n n := f11
        rw [if_neg (by omega), if_pos rfl, f11']
        exact slice_ne (fun e => by have := (Array.getElem?_eq_some_iff.1 hc2).1; omega))
    | 11, _ =>
      simp only [List.getElem?_toArray, List.getElem?_cons_zero, List.getElem?_cons_succ, Option.some.injEq] at ho; subst ho
      refine wpOp_do ho0 rfl (wp_value (v := .slice (some ⟨w1.heap.size, 0, none⟩) 1 1) (w' := (w1.alloc (.cells #[.int .i64 3] 2))) (by simp only [execOp, Act.eval, List.map_toArray, List.map_cons, List.map_nil, Sem.run_bind, Sem.run_pure, Result.andThen_ok, r11]) ?_)
      exact hI.next (by kernel_rfl) hcl ho0 (by omega) hs15 hnf (by omega) 14 rfl (by omega) (by omega) _ _ (belowA w1 _) (⟨_, rfl, hB, heap_alloc_new w1 _⟩) (hI.apart_keep 11 14 _ (by omega) (by omega) (by omega) (by omega))
    | 12, _ =>
      simp only [List.getElem?_toArray, List.getElem?_cons_zero, List.getElem?_cons_succ, Option.some.injEq] at ho; subst ho
      have l1 : l.getD 1 false = true := hd { on := 1, ground := .data } (by simp) rfl
      have l6 : l.getD 6 false = true := hd { on := 6, ground := .data } (by simp) rfl
      have l8 : l.getD 8 false = true := hd { on := 8, ground := .data } (by simp) rfl
      have l10 : l.getD 10 false = true := hd { on := 10, ground := .data } (by simp) rfl
      have l11 : l.getD 11 false = true := hd { on := 11, ground := .data } (by simp) rfl
      have l2 : l.getD 2 false = true := hcl 6 l6 _ rfl { on := 2, ground := .data } (by simp) rfl
      obtain ⟨r, f5, _⟩ := hI.facts 1 l1
      obtain ⟨m, f6, _⟩ := hI.facts 2 l2
      have f9 : a.tmps.getD 9 undef = a.tmps.getD 6 undef := hI.facts 6 l6
      obtain ⟨c, f11, _⟩ := hI.facts 8 l8
      obtain ⟨d, f13, _⟩ := hI.facts 10 l10
      obtain ⟨q, f14, _⟩ := hI.facts 11 l11
      simp only at f5 f6 f11 f13 f14
      rw [f6] at f9
      refine wpOp_do ho0 rfl (wp_value (v := .agg #[.slice (some ⟨r, 0, none⟩) 1 1, .int .i64 1, .int .i64 1, .map (some m), .slice (some ⟨c, 0, none⟩) n n, .slice (some ⟨d, 0, none⟩) n n, .slice (some ⟨q, 0, none⟩) 1 1, .slice none 0 0]) (w' := w1) (by simp only [execOp, Act.eval, List.map_toArray, List.map_cons, List.map_nil, Sem.run_bind, Sem.run_pure, Result.andThen_ok, f5, f9, f11, f13, f14, r12]) ?_)
      exact hI.next (by kernel_rfl) hcl ho0 (by omega) hs15 hnf (by omega) 15 rfl (by omega) (by omega) _ _ (Below.refl _ _) (by show (_ : Value) = Value.agg _; simp [f5, f9, f11, f13, f14]) (hI.apart_keep 12 15 _ (by omega) (by omega) (by omega) (by omega))
    | 13, _ =>
      simp only [List.getElem?_toArray, List.getElem?_cons_zero, List.getElem?_cons_succ, Option.some.injEq] at ho; subst ho
      have l12 : l.getD 12 false = true := hd { on := 12, ground := .data } (by simp) rfl
      have l1 : l.getD 1 false = true := hcl 12 l12 _ rfl { on := 1, ground := .data } (by simp) rfl
      have l6 : l.getD 6 false = true := hcl 12 l12 _ rfl { on := 6, ground := .data } (by simp) rfl
      have l8 : l.getD 8 false = true := hcl 12 l12 _ rfl { on := 8, ground := .data } (by simp) rfl
      have l10 : l.getD 10 false = true := hcl 12 l12 _ rfl { on := 10, ground := .data } (by simp) rfl
      have l11 : l.getD 11 false = true := hcl 12 l12 _ rfl { on := 11, ground := .data } (by simp) rfl
      have l2 : l.getD 2 false = true := hcl 6 l6 _ rfl { on := 2, ground := .data } (by simp) rfl
      obtain ⟨r, f5, _⟩ := hI.facts 1 l1
      obtain ⟨m, f6, _⟩ := hI.facts 2 l2
      have f9 : a.tmps.getD 9 undef = a.tmps.getD 6 undef := hI.facts 6 l6
      obtain ⟨c, f11, _⟩ := hI.facts 8 l8
      obtain ⟨d, f13, _⟩ := hI.facts 10 l10
      obtain ⟨q, f14, _⟩ := hI.facts 11 l11
      simp only at f5 f6 f11 f13 f14
      rw [f6] at f9
      have f15 : a.tmps.getD 15 undef = .agg #[a.tmps.getD 5 undef, .int .i64 1, .int .i64 1, a.tmps.getD 9 undef, a.tmps.getD 11 undef, a.tmps.getD 13 undef, a.tmps.getD 14 undef, .slice none 0 0] := hI.facts 12 l12
      rw [f5, f9, f11, f13, f14] at f15
      refine wpOp_do ho0 rfl (wp_value (v := .pointer (some ⟨w1.heap.size, 0, none⟩)) (w' := (w1.alloc (.cells #[.slice (some ⟨r, 0, none⟩) 1 1, .int .i64 1, .int .i64 1, .map (some m), .slice (some ⟨c, 0, none⟩) n n, .slice (some ⟨d, 0, none⟩) n n, .slice (some ⟨q, 0, none⟩) 1 1, .slice none 0 0] 72))) (by simp only [execOp, Act.eval, Sem.run_bind, Sem.run_pure, Result.andThen_ok, f15, r13]) ?_)
      exact hI.next (by kernel_rfl) hcl ho0 (by omega) hs15 hnf (by omega) 16 rfl (by omega) (by omega) _ _ (belowA w1 _) (⟨_, _, by show (_ : Value) = Value.agg _; simpa using f15, rfl, hB, heap_alloc_new w1 _⟩) (hI.apart_keep 13 16 _ (by omega) (by omega) (by omega) (by omega))
    | 14, _ =>
      simp only [List.getElem?_toArray, List.getElem?_cons_zero, List.getElem?_cons_succ, Option.some.injEq] at ho; subst ho
      have l13 : l.getD 13 false = true := hd { on := 13, ground := .data } (by simp) rfl
      obtain ⟨f, cs, _, f16, _⟩ := hI.facts 13 l13
      simp only at f16
      refine wpOp_do ho0 rfl (wp_value (v := .pointer (some ⟨f, 0, none⟩)) (w' := w1) (by simp only [execOp, Act.eval, Sem.run_pure, f16]) ?_)
      exact hI.next (by kernel_rfl) hcl ho0 (by omega) hs15 hnf (by omega) 3 rfl (by omega) (by omega) _ _ (Below.refl _ _) (by show (_ : Value) = _; simpa using f16.symm) (hI.apart_keep 14 3 _ (by omega) (by omega) (by omega) (by omega))
  case fin =>
    intro l a w1 hs hI hall
    have g := fun k (hk : k < 15) => hall k hk
    obtain ⟨r, f5, hr1, hr2⟩ := hI.facts 1 (g 1 (by omega))
    obtain ⟨p, f8, hp1, hp2⟩ := hI.facts 4 (g 4 (by omega))
    obtain ⟨m, p', f6, f8', hN⟩ := hI.facts 5 (g 5 (by omega))
    obtain ⟨m', f6', hm1, _⟩ := hI.facts 2 (g 2 (by omega))
    have f9 : a.tmps.getD 9 undef = a.tmps.getD 6 undef := hI.facts 6 (g 6 (by omega))
    obtain ⟨c, f11, hc1, hc2⟩ := hI.facts 8 (g 8 (by omega))
    obtain ⟨d, f13, hd1, hd2⟩ := hI.facts 10 (g 10 (by omega))
    obtain ⟨q, f14, hq1, hq2⟩ := hI.facts 11 (g 11 (by omega))
    have f15 : a.tmps.getD 15 undef = .agg #[a.tmps.getD 5 undef, .int .i64 1, .int .i64 1, a.tmps.getD 9 undef, a.tmps.getD 11 undef, a.tmps.getD 13 undef, a.tmps.getD 14 undef, .slice none 0 0] := hI.facts 12 (g 12 (by omega))
    obtain ⟨f, cs, f15', f16, hf1, hf2⟩ := hI.facts 13 (g 13 (by omega))
    have f3 : a.tmps.getD 3 undef = a.tmps.getD 16 undef := hI.facts 14 (g 14 (by omega))
    have hap := hI.apart (g 8 (by omega)) (g 10 (by omega))
    simp only at f5 f6 f6' f8 f8' f11 f13 f14 f15' f16
    rw [f11, f13] at hap
    have hcd : c ≠ d := fun e => hap (by rw [e])
    obtain rfl : m = m' := by rw [f6] at f6'; simpa using f6'
    obtain rfl : p = p' := by rw [f8] at f8'; simpa using f8'
    rw [f6] at f9
    rw [f5, f9, f11, f13, f14, f15'] at f15
    obtain rfl : cs = #[.slice (some ⟨r, 0, none⟩) 1 1, .int .i64 1, .int .i64 1, .map (some m), .slice (some ⟨c, 0, none⟩) n n, .slice (some ⟨d, 0, none⟩) n n, .slice (some ⟨q, 0, none⟩) 1 1, .slice none 0 0] := by simpa using f15
    rw [f16] at f3
    have hB := hI.below
    obtain ⟨tm, df⟩ := a
    have hdf : df = [] := hI.defers
    subst hdf
    have hsz : tm.size = 33 := hI.size
    have ha0 : tm.getD 0 undef = .int .i64 n := hI.arg
    have ha3 : tm.getD 3 undef = .pointer (some ⟨f, 0, none⟩) := f3
    clear hI hall g f5 f6 f6' f8 f8' f9 f11 f13 f14 f15 f15' f16 f3 hap
    obtain ⟨x0, x1, x2, x3, x4, x5, x6, x7, x8, x9, x10, x11, x12, x13, x14, x15, x16, x17, x18, x19, x20, x21, x22, x23, x24, x25, x26, x27, x28, x29, x30, x31, x32, rfl⟩ := arr33 tm hsz
    obtain rfl : x0 = .int .i64 n := ha0
    obtain rfl : x3 = .pointer (some ⟨f, 0, none⟩) := ha3
    clear hsz
    have hcl2 : c < w1.heap.size := (Array.getElem?_eq_some_iff.1 hc2).1
    have hcf : c ≠ f := fun e => by rw [e, hf2] at hc2; simp at hc2
    have hdf2 : d ≠ f := fun e => by rw [e, hf2] at hd2; simp at hd2
    have hn2 : (2 : Int) < (n : Int) := by omega
    have hn3 : (3 : Int) < (n : Int) := by omega
    have e4 : w1.cell? ⟨f, 4, none⟩ = some (.slice (some ⟨c, 0, none⟩) n n) := by simp [World.cell?, hf2]
    have e5 : w1.cell? ⟨f, 5, none⟩ = some (.slice (some ⟨d, 0, none⟩) n n) := by simp [World.cell?, hf2]
    have ec2 : w1.cell? ⟨c, 2, none⟩ = some (.int .i64 0) := by simp [World.cell?, hc2, i64s, show 2 < n by omega]
    have ecf : w1.frozen? ⟨c, 2, none⟩ = false := frozen_of_row w1 c _ _ _ hc2
    have ed2 : w1.cell? ⟨d, 2, none⟩ = some (.int .i64 0) := by simp [World.cell?, hd2, i64s, show 2 < n by omega]
    have ed3 : w1.cell? ⟨d, 3, none⟩ = some (.int .i64 0) := by simp [World.cell?, hd2, i64s, show 3 < n by omega]
    have edf : w1.frozen? ⟨d, 2, none⟩ = false := frozen_of_row w1 d _ _ _ hd2
    have edf3 : w1.frozen? ⟨d, 3, none⟩ = false := frozen_of_row w1 d _ _ _ hd2
    obtain ⟨W, HW⟩ : ∃ W, Hid (W = ((w1.setCell ⟨c, 2, none⟩ (.int .i64 1)).setCell ⟨d, 2, none⟩ (.int .i64 1)).setCell ⟨d, 3, none⟩ (.int .i64 1)) := ⟨_, rfl⟩
    have hoth : ∀ k, k ≠ c → k ≠ d → W.heap[k]? = w1.heap[k]? := fun k k1 k2 => by
      rw [HW.out]
      exact (Below.heap_setCell _ ⟨d, 3, none⟩ _ k k2).trans ((Below.heap_setCell _ ⟨d, 2, none⟩ _ k k2).trans (Below.heap_setCell _ ⟨c, 2, none⟩ _ k k1))
    have hty : ∀ k cs t, w1.heap[k]? = some (.cells cs t (0, 0)) → t ≠ 2 → k ≠ c ∧ k ≠ d := fun k cs t hk ht => ⟨fun e => by rw [e, hc2] at hk; simp at hk; exact ht hk.2.symm, fun e => by rw [e, hd2] at hk; simp at hk; exact ht hk.2.symm⟩
    have hFr : Fresh w.heap.size n W f r m p d q := by
      have hmm : m ≠ c ∧ m ≠ d := by
        obtain ⟨es, c0, h1, _⟩ := hN
        exact ⟨fun e => by rw [e, hc2] at h1; simp at h1, fun e => by rw [e, hd2] at h1; simp at h1⟩
      have hqq : q ≠ c ∧ q ≠ d := by
        have hsz2 : ∀ b, w1.heap[b]? = some (.cells (i64s (List.replicate n 0)) 2 (0, 0)) → q ≠ b := fun b hb e => by
          rw [e, hb] at hq2
          have h1 := congrArg (fun o => match o with | some (Obj.cells cs _ _) => cs.size | _ => 0) hq2
          simp [i64s] at h1
          omega
        exact ⟨hsz2 c hc2, hsz2 d hd2⟩
      have hf' := hty f _ _ hf2 (by decide)
      have hr' := hty r _ _ hr2 (by decide)
      have hp' := hty p _ _ hp2 (by decide)
      refine ⟨⟨c, (hoth f hf'.1 hf'.2).trans hf2⟩, (hoth r hr'.1 hr'.2).trans hr2, ?_, (hoth p hp'.1 hp'.2).trans hp2, ?_, (hoth q hqq.1 hqq.2).trans hq2, hf1, hr1, hm1, hq1⟩
      · obtain ⟨es, c0, h1, h2⟩ := hN
        exact ⟨es, c0, (hoth m hmm.1 hmm.2).trans h1, h2⟩
      · have s0 : (w1.setCell ⟨c, 2, none⟩ (.int .i64 1)).heap[d]? = some (.cells (i64s (List.replicate n 0)) 2 (0, 0)) := (Below.heap_setCell _ ⟨c, 2, none⟩ _ d (Ne.symm hcd)).trans hd2
        have s1 := heap_setCell_same _ d 2 _ _ (.int .i64 1) s0
        have s2 := heap_setCell_same _ d 3 _ _ (.int .i64 1) s1
        have e : ((i64s (List.replicate n 0)).setIfInBounds 2 (.int .i64 1)).setIfInBounds 3 (.int .i64 1) = i64s (com1 n) := by
          apply Array.toList_inj.1
          simp [i64s, com1, List.map_set]
        rw [HW.out, s2, e]
    have hBW : Below w.heap.size w W := by
      rw [HW.out]
      exact ((hB.setCell (p := ⟨c, 2, none⟩) hc1 _).setCell (p := ⟨d, 2, none⟩) hd1 _).setCell (p := ⟨d, 3, none⟩) hd1 _
    have HFR : Hid _ := hFr
    have HBW : Hid _ := hBW
    clear hFr hBW hoth hty hN hr2 hp2 hc2 hd2 hq2 hf2
    go_wp2_with fail
    go_ret
    rw [← HW.out]
    exact ⟨f, r, m, p, d, q, rfl, HFR.out, HBW.out⟩

end Go.Proofs.YtpjdhfbeofdplaaGreatDoor
