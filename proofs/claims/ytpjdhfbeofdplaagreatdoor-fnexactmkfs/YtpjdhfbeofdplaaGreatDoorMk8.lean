import Derived.Test.YtpjdhfbeofdplaaGreatDoorMk7
import Derived.Test.YtpjdhfbeofdplaaGreatDoorRn3
namespace Go.Proofs.YtpjdhfbeofdplaaGreatDoor
open Go.RowKit

theorem com1_at (n k : Nat) (hn : 8 ≤ n) : (com1 n).getD k 0 = if k = 2 ∨ k = 3 then 1 else 0 := by
  simp only [com1, List.getD_eq_getElem?_getD, List.getElem?_set, List.length_set, List.length_replicate, List.getElem?_replicate]
  by_cases h3 : 3 = k
  · subst h3; rw [if_pos rfl, if_pos (by omega)]; simp
  · rw [if_neg h3]
    by_cases h2 : 2 = k
    · subst h2; rw [if_pos rfl, if_pos (by omega)]; simp
    · rw [if_neg h2, if_neg (show ¬ (k = 2 ∨ k = 3) by omega)]
      by_cases hk : k < n
      · rw [if_pos hk]; rfl
      · rw [if_neg hk]; rfl
theorem com1_length (n : Nat) : (com1 n).length = n := by simp [com1]
theorem rns_com1 (n : Nat) (hn : 8 ≤ n) : rns (com1 n) n = run1 := by
  have h := fun k => com1_at n k hn
  have e0 : rns (com1 n) 0 = [] := rfl
  have e1 : rns (com1 n) 1 = [] := by rw [rns_zero _ 0 (by rw [h]; rfl), e0]
  have e2 : rns (com1 n) 2 = [] := by rw [rns_zero _ 1 (by rw [h]; rfl), e1]
  have e3 : rns (com1 n) 3 = [(2, 1, 1)] := by
    rw [rns_new _ 2 (by rw [h]; decide) (.inr (by rw [h, h]; decide)), e2, h]; rfl
  have e4 : rns (com1 n) 4 = [(2, 2, 1)] := by
    obtain ⟨pre, a, b, c, h1, h2, _⟩ := rns_more (com1 n) 2 (by rw [h]; decide) (by rw [h, h]; decide)
    rw [e3] at h1
    have hl : pre.length = 0 := by have := congrArg List.length h1; simp only [List.length_append, List.length_cons, List.length_nil] at this; omega
    have hp : pre = [] := List.eq_nil_of_length_eq_zero hl
    subst hp
    simp only [List.nil_append, List.cons.injEq, Prod.mk.injEq, and_true] at h1
    obtain ⟨rfl, rfl, rfl⟩ := h1
    rw [h2]; rfl
  have step : ∀ j, rns (com1 n) (4 + j) = [(2, 2, 1)] := fun j => by
    induction j with
    | zero => exact e4
    | succ j ih =>
      rw [show 4 + (j + 1) = (4 + j) + 1 by omega, rns_zero _ (4 + j) (by rw [h, if_neg (by omega)]), ih]
  have := step (n - 4)
  rwa [show 4 + (n - 4) = n by omega] at this

/-- runs that lie in a block of runs -/
theorem rread_kept {w w' : World} {ra : Addr} {rc : Nat} (h : RRead w (.slice (some ra) 1 rc) run1) (hk : w'.heap[ra.block]? = w.heap[ra.block]?) : RRead w' (.slice (some ra) 1 rc) run1 := by
  obtain ⟨a, c, hv, hc⟩ := h
  refine ⟨a, c, hv, fun hp => ?_⟩
  obtain ⟨b, off, ha, hcell⟩ := hc hp
  simp only [Value.slice.injEq] at hv
  obtain ⟨hv1, _, _⟩ := hv
  rw [ha] at hv1
  simp only [Option.some.injEq] at hv1
  subst hv1
  refine ⟨b, off, ha, fun i hi => ?_⟩
  obtain ⟨e1, e2, e3⟩ := hcell i hi
  exact ⟨(World.cell?_of_block (a := ⟨b, off + i * 3, none⟩) hk).trans e1, (World.cell?_of_block (a := ⟨b, off + i * 3 + 1, none⟩) hk).trans e2, (World.cell?_of_block (a := ⟨b, off + i * 3 + 2, none⟩) hk).trans e3⟩
/-- the run of a fresh volume lies at ra -/
def RunAt (w : World) (ra : Addr) (rc : Nat) : Prop := RRead w (.slice (some ra) 1 rc) run1 ∧ ∃ cs, w.heap[ra.block]? = some (.cells cs 57 (0, 0))
theorem RunAt.kept {w w' : World} {ra : Addr} {rc : Nat} (h : RunAt w ra rc) (hk : w'.heap[ra.block]? = w.heap[ra.block]?) : RunAt w' ra rc := ⟨rread_kept h.1 hk, by obtain ⟨cs, e⟩ := h.2; exact ⟨cs, hk.trans e⟩⟩
theorem RunAt.below {w w' : World} {ra : Addr} {rc : Nat} (h : RunAt w ra rc) (k : Below w.heap.size w w') : RunAt w' ra rc := by
  obtain ⟨cs, e⟩ := h.2
  exact h.kept (k.block _ (Array.getElem?_eq_some_iff.1 e).1)

theorem run_index (r : Nat) (w : World) : (Instr.indexAt 43 (.slice (some ⟨r, 0, none⟩) 1 1) (.int .i64 0)).run Tryz.prog w = .ok (.pointer (some ⟨r, 0, none⟩)) w := by kernel_rfl
theorem fieldF0 (f : Nat) (w : World) : (Instr.fieldAt 72 (.pointer (some ⟨f, 0, none⟩)) 0).run Tryz.prog w = .ok (.pointer (some ⟨f, 0, none⟩)) w := by kernel_rfl
theorem fieldF5 (f : Nat) (w : World) : (Instr.fieldAt 72 (.pointer (some ⟨f, 0, none⟩)) 5).run Tryz.prog w = .ok (.pointer (some ⟨f, 5, none⟩)) w := by kernel_rfl
theorem fieldF6 (f : Nat) (w : World) : (Instr.fieldAt 72 (.pointer (some ⟨f, 0, none⟩)) 6).run Tryz.prog w = .ok (.pointer (some ⟨f, 6, none⟩)) w := by kernel_rfl
theorem fieldR1 (r : Nat) (w : World) : (Instr.fieldAt 68 (.pointer (some ⟨r, 0, none⟩)) 1).run Tryz.prog w = .ok (.pointer (some ⟨r, 1, none⟩)) w := by kernel_rfl
theorem loadRt {w : World} {b o : Nat} {a : Option Addr} {n c : Nat} (h : w.cell? ⟨b, o, none⟩ = some (.slice a n c)) : (Instr.loadAt 43 (.pointer (some ⟨b, o, none⟩))).run Tryz.prog w = .ok (.slice a n c) w := by
  simp [go_sem, h]
theorem loadNs {w : World} {b o : Nat} {a : Option Addr} {n c : Nat} (h : w.cell? ⟨b, o, none⟩ = some (.slice a n c)) : (Instr.loadAt 44 (.pointer (some ⟨b, o, none⟩))).run Tryz.prog w = .ok (.slice a n c) w := by
  simp [go_sem, h]
theorem build2 (w : World) : (Instr.buildSlice 44 1 #[(0, .int .i64 2)]).run Tryz.prog w = .ok (.slice (some ⟨w.heap.size, 0, none⟩) 1 1) (w.alloc (.cells #[.int .i64 2] 2)) := by kernel_rfl
theorem buildPl (a b c : Option Addr) (n1 c1 n2 c2 n3 c3 : Nat) (w : World) : (Instr.build 75 #[(0, .slice a n1 c1), (1, .slice b n2 c2), (2, .slice c n3 c3)]).run Tryz.prog w = .ok (.agg #[.slice a n1 c1, .slice b n2 c2, .slice c n3 c3]) w := by kernel_rfl
theorem allocPl (w : World) : (Instr.alloc 75 true (.tuple #[])).run Tryz.prog w = .ok (.pointer (some ⟨w.heap.size, 0, none⟩)) (w.alloc (.cells #[.slice none 0 0, .slice none 0 0, .slice none 0 0] 75)) := by kernel_rfl
theorem storePl {w : World} {x : Nat} {u0 u1 u2 : Value} (h : w.heap[x]? = some (.cells #[u0, u1, u2] 75 (0, 0))) (a b c : Option Addr) (n1 c1 n2 c2 n3 c3 : Nat) :
    ∃ w', (Instr.storeAt 75 (.pointer (some ⟨x, 0, none⟩)) (.agg #[.slice a n1 c1, .slice b n2 c2, .slice c n3 c3])).run Tryz.prog w = .ok () w' ∧ w'.heap[x]? = some (.cells #[.slice a n1 c1, .slice b n2 c2, .slice c n3 c3] 75 (0, 0)) ∧ Upd x (x + 1) w w' := by
  have c0 : w.cell? ⟨x, 0, none⟩ = some u0 := by simp [World.cell?, h]
  have c1' : w.cell? ⟨x, 1, none⟩ = some u1 := by simp [World.cell?, h]
  have c2' : w.cell? ⟨x, 2, none⟩ = some u2 := by simp [World.cell?, h]
  have hf : ∀ i, w.frozen? ⟨x, i, none⟩ = false := fun i => frozen_of_row w x i _ _ h
  refine ⟨((w.setCell ⟨x, 0, none⟩ (.slice a n1 c1)).setCell ⟨x, 1, none⟩ (.slice b n2 c2)).setCell ⟨x, 2, none⟩ (.slice c n3 c3), ?_, ?_, ?_⟩
  · simp [go_sem, c0, c1', c2', hf]
  · have s0 := heap_setCell_same w x 0 _ _ (.slice a n1 c1) h
    have s1 := heap_setCell_same _ x 1 _ _ (.slice b n2 c2) s0
    have s2 := heap_setCell_same _ x 2 _ _ (.slice c n3 c3) s1
    simpa using s2
  · exact (((Upd.refl _ _ _).setCell (p := ⟨x, 0, none⟩) (Nat.le_refl _) (Nat.lt_succ_self _) _).setCell (p := ⟨x, 1, none⟩) (Nat.le_refl _) (Nat.lt_succ_self _) _).setCell (p := ⟨x, 2, none⟩) (Nat.le_refl _) (Nat.lt_succ_self _) _

/-- what operation k leaves, once it is carried out -/
def plF (B8 f r d q n : Nat) (w : World) (t : Nat → Value) : Nat → Prop
  | 0 => t 19 = .pointer (some ⟨f, 0, none⟩)
  | 1 => t 20 = .pointer (some ⟨f, 0, none⟩)
  | 2 => t 21 = .pointer (some ⟨f, 0, none⟩)
  | 3 => t 22 = .slice (some ⟨r, 0, none⟩) 1 1
  | 4 => t 23 = .pointer (some ⟨r, 0, none⟩)
  | 5 => t 24 = .pointer (some ⟨r, 1, none⟩)
  | 6 => t 25 = .int .i64 2
  | 7 => ∃ db, t 26 = .slice (some ⟨db, 0, none⟩) 1 1 ∧ w.heap[db]? = some (.cells #[.int .i64 2] 2 (0, 0))
  | 8 => t 27 = .pointer (some ⟨f, 0, none⟩)
  | 9 => t 28 = .pointer (some ⟨f, 0, none⟩)
  | 10 => t 29 = .pointer (some ⟨f, 6, none⟩)
  | 11 => t 30 = .slice (some ⟨q, 0, none⟩) 1 1
  | 12 => t 31 = .pointer (some ⟨f, 0, none⟩)
  | 13 => t 32 = .pointer (some ⟨f, 0, none⟩)
  | 14 => t 33 = .pointer (some ⟨f, 5, none⟩)
  | 15 => t 34 = .slice (some ⟨d, 0, none⟩) n n
  | 16 => ∃ ra rc, t 35 = .slice (some ra) 1 rc ∧ 1 ≤ rc ∧ RunAt w ra rc
  | 17 => t 36 = .agg #[t 26, t 30, t 35]
  | 18 => ∃ x, t 6 = .pointer (some ⟨x, 0, none⟩) ∧ B8 ≤ x ∧ w.heap[x]? = some (.cells #[.slice none 0 0, .slice none 0 0, .slice none 0 0] 75 (0, 0))
  | _ => True
/-- the slots that it names -/
def plSl : List (List Nat) := [[19], [20], [21], [22], [23], [24], [25], [26], [27], [28], [29], [30], [31], [32], [33], [34], [35], [36, 26, 30, 35], [6]]
theorem plF.keep {B8 f r d q n : Nat} {w w' : World} {t t' : Nat → Value} {k : Nat} (h : plF B8 f r d q n w t k) (hs : ∀ s ∈ plSl.getD k [], t' s = t s) (hb : Below w.heap.size w w') : plF B8 f r d q n w' t' k := by
  match k with
  | 0 => exact (hs 19 (by simp [plSl])).trans h
  | 1 => exact (hs 20 (by simp [plSl])).trans h
  | 2 => exact (hs 21 (by simp [plSl])).trans h
  | 3 => exact (hs 22 (by simp [plSl])).trans h
  | 4 => exact (hs 23 (by simp [plSl])).trans h
  | 5 => exact (hs 24 (by simp [plSl])).trans h
  | 6 => exact (hs 25 (by simp [plSl])).trans h
  | 7 => obtain ⟨x, e1, e2⟩ := h; exact ⟨x, (hs 26 (by simp [plSl])).trans e1, (hb.block x (Array.getElem?_eq_some_iff.1 e2).1).trans e2⟩
  | 8 => exact (hs 27 (by simp [plSl])).trans h
  | 9 => exact (hs 28 (by simp [plSl])).trans h
  | 10 => exact (hs 29 (by simp [plSl])).trans h
  | 11 => exact (hs 30 (by simp [plSl])).trans h
  | 12 => exact (hs 31 (by simp [plSl])).trans h
  | 13 => exact (hs 32 (by simp [plSl])).trans h
  | 14 => exact (hs 33 (by simp [plSl])).trans h
  | 15 => exact (hs 34 (by simp [plSl])).trans h
  | 16 => obtain ⟨ra, rc, e1, e2, e3⟩ := h; exact ⟨ra, rc, (hs 35 (by simp [plSl])).trans e1, e2, e3.below hb⟩
  | 17 => have h' : t 36 = .agg #[t 26, t 30, t 35] := h; show t' 36 = .agg #[t' 26, t' 30, t' 35]; rw [hs 36 (by simp [plSl]), hs 26 (by simp [plSl]), hs 30 (by simp [plSl]), hs 35 (by simp [plSl])]; exact h'
  | 18 => obtain ⟨x, e1, e2, e3⟩ := h; exact ⟨x, (hs 6 (by simp [plSl])).trans e1, e2, (hb.block x (Array.getElem?_eq_some_iff.1 e3).1).trans e3⟩
  | k + 19 => trivial
def plDeps (ops : Array Oper) : Bool := (List.range 19).all fun k => (plSl.getD k []).all fun s => (List.range 19).all fun i => i == k || (((ops[i]?).bind (·.dst)) != some s) || (((ops[k]?).map fun o => o.after.toList.any fun e => Region.binds .any e && e.on == i).getD false)
theorem pl_free {ops : Array Oper} (hd : plDeps ops = true) {l : Array Bool} (hcl : Clsd .any ops l) {i k : Nat} (hi : i < 19) (hk : k < 19) (hl : l.getD k false = true) (hn : l.getD i false = false) {o : Oper} (ho : ops[i]? = some o) {s : Nat} (hs : s ∈ plSl.getD k []) : o.dst ≠ some s := by
  intro he
  have hki : i ≠ k := fun e => by subst e; rw [hl] at hn; cases hn
  have h1 := List.all_eq_true.1 hd k (List.mem_range.2 hk)
  have h2 := List.all_eq_true.1 h1 s hs
  have h3 := List.all_eq_true.1 h2 i (List.mem_range.2 hi)
  rw [ho] at h3
  simp only [Option.bind_some, he, bne_self_eq_false, Bool.or_false, Bool.or_eq_true, beq_iff_eq] at h3
  rcases h3 with h3 | h3
  · exact hki h3
  · cases hok : ops[k]? with
    | none => simp [hok] at h3
    | some ok =>
      simp only [hok, Option.map_some, Option.getD_some, List.any_eq_true, Bool.and_eq_true, beq_iff_eq] at h3
      obtain ⟨e, he1, he2, he3⟩ := h3
      have := hcl k hl ok hok e (by simpa using he1) he2
      rw [he3, hn] at this
      cases this

/-- the plan under way -/
structure BI (W8 : World) (f r d q n : Nat) (row : Value) (l : Array Bool) (a : Act) (w : World) : Prop where
  size : a.tmps.size = 45
  defers : a.defers = []
  s3 : a.tmps.getD 3 undef = row
  s5 : a.tmps.getD 5 undef = .pointer (some ⟨f, 0, none⟩)
  below : Below W8.heap.size W8 w
  early : l.getD 19 false = false → ∀ k, l.getD k false = true → plF W8.heap.size f r d q n w (fun s => a.tmps.getD s undef) k
  late : l.getD 19 false = true → ∃ x db ra rc, a.tmps.getD 6 undef = .pointer (some ⟨x, 0, none⟩) ∧ w.heap[x]? = some (.cells #[.slice (some ⟨db, 0, none⟩) 1 1, .slice (some ⟨q, 0, none⟩) 1 1, .slice (some ra) 1 rc] 75 (0, 0)) ∧ w.heap[db]? = some (.cells #[.int .i64 2] 2 (0, 0)) ∧ 1 ≤ rc ∧ RunAt w ra rc

theorem BI.next {W8 : World} {f r d q n : Nat} {row : Value} {l : Array Bool} {a : Act} {w : World} (h : BI W8 f r d q n row l a w) {ops : Array Oper} (hd : plDeps ops = true) (hcl : Clsd .any ops l) {i : Nat} {o : Oper} (ho : ops[i]? = some o) (hi : i < 19) (hnf : l.getD i false = false) (hnl : l.getD 19 false = false)
    (dd : Nat) (hod : o.dst = some dd) (hd45 : dd < 45) (hd3 : dd ≠ 3) (hd5 : dd ≠ 5) (v : Value) (w' : World) (hb : Below w.heap.size w w')
    (hf : plF W8.heap.size f r d q n w' (fun s => if s = dd then v else a.tmps.getD s undef) i) :
    BI W8 f r d q n row (l.setIfInBounds i true) (a.put (some dd) v) w' := by
  have hsz := h.size
  have hg := fun s => put_get a dd s v (by omega)
  have h2 := h.early hnl
  refine ⟨by simp [Act.put, hsz], h.defers, ?_, ?_, h.below.trans (hb.mono h.below.size), fun _ k hk => ?_, fun hl => ?_⟩
  · rw [hg, if_neg (Ne.symm hd3)]; exact h.s3
  · rw [hg, if_neg (Ne.symm hd5)]; exact h.s5
  · by_cases hki : i = k
    · subst hki
      have : (fun s => (a.put (some dd) v).tmps.getD s undef) = fun s => if s = dd then v else a.tmps.getD s undef := funext hg
      rw [this]; exact hf
    · rw [getD_set_ne false hki] at hk
      by_cases hk19 : k < 19
      · refine (h2 k hk).keep (fun s hs => ?_) hb
        have := pl_free hd hcl hi hk19 hk hnf ho hs
        rw [hg, if_neg (fun e => this (by rw [e]; exact hod))]
      · match k, Nat.le_of_not_lt hk19 with
        | k + 19, _ => trivial
  · rw [getD_set_ne false (show i ≠ 19 by omega), hnl] at hl; cases hl

end Go.Proofs.YtpjdhfbeofdplaaGreatDoor
