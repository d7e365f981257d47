import Derived.Test.YtpjdhfbeofdplaaGreatDoorMk6
namespace Go.Proofs.YtpjdhfbeofdplaaGreatDoor
open Go.RowKit

theorem wpList_appendSt1 {ops : Array Oper} {rest : List Oper} {o : Oper} {a : Act} {Q : Exit → Act → World → Prop} (hgd : o.guard = none) (s x : Operand)
    (ho : o.op = .call { callee := .builtin .append, args := #[s, x], argTypes := #[29, 29] })
    {base : Nat} {w0 : World} {v : Value} {n : Nat} {cs : List Value} (x1 x2 x3 : Value) (hu : ([x1, x2, x3]).all (·.oneCell') = true) (hown : StR base w0 v n cs) (hs : a.eval s = v) (hx : a.eval x = .slice (some ⟨w0.heap.size, 0, none⟩) 1 1) (hlen : n ≤ 900) (hb : base ≤ w0.heap.size)
    (h : ∀ v' w', StR base w' v' (n + 1) (cs ++ [x1, x2, x3]) → NoSt w0 w' → Below base w0 w' → wpList Tryz.prog ops Q rest (a.put o.dst v') w') :
    wpList Tryz.prog ops Q (o :: rest) a (w0.alloc (.cells #[x1, x2, x3] 50)) := by
  refine wpList_appendSt hgd s x ho (hown.below (belowA _ _)) hs ⟨w0.heap.size, 0, none⟩ 1 1 hx [x1, x2, x3] rfl ?_ (fun u hm => List.all_eq_true.1 hu u hm) (by omega) (by simp; omega) fun v' w' h1 h2 h3 => h v' w' h1 ((NoSt.of_below (belowA _ _)).trans h2) (((Below.refl base w0).alloc hb _).trans h3)
  intro j u hj
  rw [Addr.add_mid, Nat.zero_add, World.cell?_alloc_at _ _ _ _ rfl]
  simpa using hj

theorem wpList_appendSt3 {ops : Array Oper} {rest : List Oper} {o : Oper} {a : Act} {Q : Exit → Act → World → Prop} (hgd : o.guard = none) (s x : Operand)
    (ho : o.op = .call { callee := .builtin .append, args := #[s, x], argTypes := #[29, 29] })
    {base : Nat} {w0 : World} {v : Value} {n : Nat} {cs : List Value} (x1 x2 x3 x4 x5 x6 x7 x8 x9 : Value) (hu : ([x1, x2, x3, x4, x5, x6, x7, x8, x9]).all (·.oneCell') = true) (hown : StR base w0 v n cs) (hs : a.eval s = v) (hx : a.eval x = .slice (some ⟨w0.heap.size, 0, none⟩) 3 3) (hlen : n ≤ 900) (hb : base ≤ w0.heap.size)
    (h : ∀ v' w', StR base w' v' (n + 3) (cs ++ [x1, x2, x3, x4, x5, x6, x7, x8, x9]) → NoSt w0 w' → Below base w0 w' → wpList Tryz.prog ops Q rest (a.put o.dst v') w') :
    wpList Tryz.prog ops Q (o :: rest) a (w0.alloc (.cells #[x1, x2, x3, x4, x5, x6, x7, x8, x9] 50)) := by
  refine wpList_appendSt hgd s x ho (hown.below (belowA _ _)) hs ⟨w0.heap.size, 0, none⟩ 3 3 hx [x1, x2, x3, x4, x5, x6, x7, x8, x9] rfl ?_ (fun u hm => List.all_eq_true.1 hu u hm) (by omega) (by simp; omega) fun v' w' h1 h2 h3 => h v' w' h1 ((NoSt.of_below (belowA _ _)).trans h2) (((Below.refl base w0).alloc hb _).trans h3)
  intro j u hj
  rw [Addr.add_mid, Nat.zero_add, World.cell?_alloc_at _ _ _ _ rfl]
  simpa using hj

theorem StR.lower {base base' : Nat} {w : World} {v : Value} {n : Nat} {cs : List Value} (h : StR base w v n cs) (hb : base' ≤ base) : StR base' w v n cs := by
  refine ⟨h.1, ?_⟩
  rcases h.2 with hv | ⟨g, cap, cur, hv, h1, h2⟩
  · exact .inl hv
  · exact .inr ⟨g, cap, cur, hv, Nat.le_trans hb h1, h2⟩

theorem NMap.look {w : World} {m p : Nat} (h : NMap w m p) : (Instr.lookup 69 (.map (some m)) (.int .i64 2) false).run Tryz.prog w = .ok (.pointer (some ⟨p, 0, none⟩)) w := by
  obtain ⟨es, c, hb, hff, _⟩ := h
  have hc : ∀ e, (Instr.checkKey e 10000 2 (.int .i64 2)).run Tryz.prog w = .ok () w := fun e => MapKept.run_checkKey (k := .int .i64 2) Tryz.underlying2 (by simp [MapKept.IsKey]) e 9999
  simp [Instr.lookup, run_underlying Tryz.underlying69, MapKept.run_getObj_map hb, hc, MapKept.run_findKey Tryz.underlying2 hff, Result.andThen]

/-- what commitSteps leaves -/
structure Cmt (base : Nat) (n : Nat) (w : World) (v : Value) (g1 g2 g3 : Nat) : Prop where
  row : StR base w v 5 [.int .i64 1, .int .i64 2, .slice (some ⟨g1, 0, none⟩) 128 128, .int .i64 1, .int .i64 3, .slice (some ⟨g2, 0, none⟩) 128 128, .int .i64 2, .int .i64 0, .slice none 0 0, .int .i64 1, .int .i64 1, .slice (some ⟨g3, 0, none⟩) 128 128, .int .i64 2, .int .i64 0, .slice none 0 0]
  d1 : Dat w g1 121 (slL (headL 1 0))
  d2 : Dat w g2 121 (slL (layP 0 run1 1))
  d3 : Dat w g3 121 (slL (su6 n))
  b1 : base ≤ g1
  b2 : base ≤ g2
  b3 : base ≤ g3

/-- what operation k leaves, once it is carried out -/
def ccF (f g3 : Nat) (row : Value) (w : World) (t : Nat → Value) : Nat → Prop
  | 0 => t 72 = row
  | 1 => t 73 = .agg #[.int .i64 2, .int .i64 0, .slice none 0 0]
  | 2 => t 74 = .pointer (some ⟨f, 0, none⟩)
  | 3 => t 75 = .pointer (some ⟨f, 0, none⟩)
  | 4 => t 76 = .pointer (some ⟨f, 2, none⟩)
  | 5 => t 77 = .int .i64 1
  | 6 => t 78 = .int .i64 1
  | 7 => t 79 = .slice (some ⟨g3, 0, none⟩) 128 128
  | 8 => t 80 = .agg #[.int .i64 1, .int .i64 1, .slice (some ⟨g3, 0, none⟩) 128 128]
  | 9 => t 81 = .agg #[.int .i64 2, .int .i64 0, .slice none 0 0]
  | 10 => ∃ x, t 82 = .slice (some ⟨x, 0, none⟩) 3 3 ∧ w.heap[x]? = some (.cells #[.int .i64 2, .int .i64 0, .slice none 0 0, .int .i64 1, .int .i64 1, .slice (some ⟨g3, 0, none⟩) 128 128, .int .i64 2, .int .i64 0, .slice none 0 0] 50 (0, 0))
  | _ => True
/-- the slots that it names -/
def ccSl : List (List Nat) := [[72], [73], [74], [75], [76], [77], [78], [79], [80], [81], [82]]
theorem ccF.keep {f g3 : Nat} {row : Value} {w w' : World} {t t' : Nat → Value} {k : Nat} (h : ccF f g3 row w t k) (hs : ∀ s ∈ ccSl.getD k [], t' s = t s) (hb : Below w.heap.size w w') : ccF f g3 row w' t' k := by
  match k with
  | 0 => exact (hs 72 (by simp [ccSl])).trans h
  | 1 => exact (hs 73 (by simp [ccSl])).trans h
  | 2 => exact (hs 74 (by simp [ccSl])).trans h
  | 3 => exact (hs 75 (by simp [ccSl])).trans h
  | 4 => exact (hs 76 (by simp [ccSl])).trans h
  | 5 => exact (hs 77 (by simp [ccSl])).trans h
  | 6 => exact (hs 78 (by simp [ccSl])).trans h
  | 7 => exact (hs 79 (by simp [ccSl])).trans h
  | 8 => exact (hs 80 (by simp [ccSl])).trans h
  | 9 => exact (hs 81 (by simp [ccSl])).trans h
  | 10 => obtain ⟨x, e1, e2⟩ := h; exact ⟨x, (hs 82 (by simp [ccSl])).trans e1, (hb.block x (Array.getElem?_eq_some_iff.1 e2).1).trans e2⟩
  | k + 11 => trivial
def ccDeps (ops : Array Oper) : Bool := (List.range 11).all fun k => (ccSl.getD k []).all fun s => (List.range 11).all fun i => i == k || (((ops[i]?).bind (·.dst)) != some s) || (((ops[k]?).map fun o => o.after.toList.any fun e => Region.binds .any e && e.on == i).getD false)
theorem cc_free {ops : Array Oper} (hd : ccDeps ops = true) {l : Array Bool} (hcl : Clsd .any ops l) {i k : Nat} (hi : i < 11) (hk : k < 11) (hl : l.getD k false = true) (hn : l.getD i false = false) {o : Oper} (ho : ops[i]? = some o) {s : Nat} (hs : s ∈ ccSl.getD k []) : o.dst ≠ some s := by
  intro he
  have hki : i ≠ k := fun e => by subst e; rw [hl] at hn; cases hn
  have h1 := List.all_eq_true.1 hd k (List.mem_range.2 hk)
  have h2 := List.all_eq_true.1 h1 s hs
  have h3 := List.all_eq_true.1 h2 i (List.mem_range.2 hi)
  rw [ho] at h3
  simp only [Option.bind_some, he, bne_self_eq_false, Bool.or_false, Bool.or_eq_true, beq_iff_eq] at h3
  rcases h3 with h3 | h3
  · exact hki h3
  · cases hok : ops[k]? with
    | none => simp [hok] at h3
    | some ok =>
      simp only [hok, Option.map_some, Option.getD_some, List.any_eq_true, Bool.and_eq_true, beq_iff_eq] at h3
      obtain ⟨e, he1, he2, he3⟩ := h3
      have := hcl k hl ok hok e (by simpa using he1) he2
      rw [he3, hn] at this
      cases this

/-- the last region of commitSteps under way: up to the append, and behind it -/
structure CI (w4 : World) (base f g3 : Nat) (row : Value) (cs : List Value) (l : Array Bool) (a : Act) (w : World) : Prop where
  size : a.tmps.size = 84
  defers : a.defers = []
  s0 : a.tmps.getD 0 undef = .pointer (some ⟨f, 0, none⟩)
  s5 : a.tmps.getD 5 undef = row
  s14 : a.tmps.getD 14 undef = .slice (some ⟨g3, 0, none⟩) 128 128
  early : l.getD 11 false = false → Below w4.heap.size w4 w ∧ l.getD 12 false = false ∧ ∀ k, l.getD k false = true → ccF f g3 row w (fun s => a.tmps.getD s undef) k
  late : l.getD 11 false = true → NoSt w4 w ∧ Below base w4 w ∧ StR base w (a.tmps.getD 83 undef) 5 (cs ++ [.int .i64 2, .int .i64 0, .slice none 0 0, .int .i64 1, .int .i64 1, .slice (some ⟨g3, 0, none⟩) 128 128, .int .i64 2, .int .i64 0, .slice none 0 0]) ∧ (l.getD 12 false = true → a.tmps.getD 4 undef = a.tmps.getD 83 undef)

/-- one operation ahead of the append -/
theorem CI.next {w4 : World} {base f g3 : Nat} {row : Value} {cs : List Value} {l : Array Bool} {a : Act} {w : World} (h : CI w4 base f g3 row cs l a w) {ops : Array Oper} (hd : ccDeps ops = true) (hcl : Clsd .any ops l) {i : Nat} {o : Oper} (ho : ops[i]? = some o) (hi : i < 11) (hnf : l.getD i false = false) (hn11 : l.getD 11 false = false)
    (d : Nat) (hod : o.dst = some d) (hd84 : d < 84) (hd0 : d ≠ 0) (hd5 : d ≠ 5) (hd14 : d ≠ 14) (v : Value) (w' : World) (hb : Below w.heap.size w w')
    (hf : ccF f g3 row w' (fun s => if s = d then v else a.tmps.getD s undef) i) :
    CI w4 base f g3 row cs (l.setIfInBounds i true) (a.put (some d) v) w' := by
  have hsz := h.size
  have hg := fun s => put_get a d s v (by omega)
  obtain ⟨h1, h12, h2⟩ := h.early hn11
  refine ⟨by simp [Act.put, hsz], h.defers, ?_, ?_, ?_, fun _ => ⟨h1.trans (hb.mono h1.size), by rw [getD_set_ne false (show i ≠ 12 by omega)]; exact h12, fun k hk => ?_⟩, fun h11 => ?_⟩
  · rw [hg, if_neg (Ne.symm hd0)]; exact h.s0
  · rw [hg, if_neg (Ne.symm hd5)]; exact h.s5
  · rw [hg, if_neg (Ne.symm hd14)]; exact h.s14
  · by_cases hki : i = k
    · subst hki
      have : (fun s => (a.put (some d) v).tmps.getD s undef) = fun s => if s = d then v else a.tmps.getD s undef := funext hg
      rw [this]; exact hf
    · rw [getD_set_ne false hki] at hk
      by_cases hk11 : k < 11
      · refine (h2 k hk).keep (fun s hs => ?_) hb
        have := cc_free hd hcl hi hk11 hk hnf ho hs
        rw [hg, if_neg (fun e => this (by rw [e]; exact hod))]
      · match k, Nat.le_of_not_lt hk11 with
        | k + 11, _ => trivial
  · rw [getD_set_ne false (show i ≠ 11 by omega), hn11] at h11; cases h11

theorem wp_enter {P : Program} {o : Oper} {a : Act} {w : World} {f : FuncId} {args : Array Value} {K : Act → World → Prop} {Q : Exit → Act → World → Prop} (h : (execOp a.eval o).run P w = .ok (.enter f args) w) (hC : Calls P f args w fun e w' => ∃ v, e = .returned v ∧ K (a.put o.dst v) w') : o.wp P a w K Q := by
  unfold Oper.wp
  rw [h, Oper.upon_enter]
  refine hC.mono ?_
  rintro e w' ⟨v, rfl, hK⟩
  exact hK
/-- steps are appended, whatever else is about -/
theorem wp_appendSt {o : Oper} {a : Act} {w : World} {K : Act → World → Prop} {Q : Exit → Act → World → Prop} (s x : Operand)
    (ho : o.op = .call { callee := .builtin .append, args := #[s, x], argTypes := #[29, 29] })
    {base : Nat} {v : Value} {n : Nat} {cs : List Value} (hown : StR base w v n cs) (hs : a.eval s = v) (ad : Addr) (m c : Nat) (hx : a.eval x = .slice (some ad) m c) (news : List Value) (hl : news.length = m * 3)
    (hnews : ∀ j u, news[j]? = some u → w.cell? (ad.add j) = some u) (h1 : ∀ u ∈ news, u.oneCell' = true) (hlen : n + m ≤ 1000) (hb : base ≤ w.heap.size)
    (h : ∀ v' w', StR base w' v' (n + m) (cs ++ news) → w.grownBy w' v.ownBlock → NoSt w w' → Below base w w' → K (a.put o.dst v') w') : o.wp Tryz.prog a w K Q := by
  obtain ⟨i0, hi, hzz⟩ := Option.map_eq_some_iff.1 infoStp
  simp only [Prod.mk.injEq] at hzz
  obtain ⟨hz0, hz1, hz2⟩ := hzz
  refine wp_append_own _ s x 29 ho base 50 i0 _ 3 40 Tryz.underlying29 hi hz0 hz1 hz2 rfl (by decide) v n cs hs hown ad m c news hx hl hnews h1 (by unfold maxLen; omega) (by omega) hb ?_
  intro v' w' h2 h3 _
  refine h v' w' h2 h3 ⟨h3.size, fun g hg hn => h3.block g hg fun e => ?_⟩ ((Below.refl base w).grown h3 hb fun k hk => ?_)
  · rcases hown.2 with ⟨hv, _⟩ | ⟨g', cap, cur, hv, _, hg', _⟩
    · rw [hv] at e; cases e
    · rw [hv] at e
      simp only [Value.ownBlock, Option.some.injEq] at e
      subst e
      exact hn _ _ hg'
  · exact (World.ownsRow.lt hown k hk).1
theorem fieldF (f i : Nat) (hi : i = 2) (w : World) : (Instr.fieldAt 72 (.pointer (some ⟨f, 0, none⟩)) i).run Tryz.prog w = .ok (.pointer (some ⟨f, 2, none⟩)) w := by
  subst hi; kernel_rfl
theorem loadI {w : World} {b o : Nat} {v : Int} (h : w.cell? ⟨b, o, none⟩ = some (.int .i64 v)) : (Instr.loadAt 2 (.pointer (some ⟨b, o, none⟩))).run Tryz.prog w = .ok (.int .i64 v) w := by
  simp [go_sem, h]
theorem build9 (g3 : Nat) (w : World) : (Instr.buildSlice 29 3 #[(0, .agg #[.int .i64 2, .int .i64 0, .slice none 0 0]), (1, .agg #[.int .i64 1, .int .i64 1, .slice (some ⟨g3, 0, none⟩) 128 128]), (2, .agg #[.int .i64 2, .int .i64 0, .slice none 0 0])]).run Tryz.prog w = .ok (.slice (some ⟨w.heap.size, 0, none⟩) 3 3) (w.alloc (.cells #[.int .i64 2, .int .i64 0, .slice none 0 0, .int .i64 1, .int .i64 1, .slice (some ⟨g3, 0, none⟩) 128 128, .int .i64 2, .int .i64 0, .slice none 0 0] 50)) := by kernel_rfl

/-- an array of 84 values, one by one -/
theorem arr84 (a : Array Value) (h : a.size = 84) : ∃ x0 x1 x2 x3 x4 x5 x6 x7 x8 x9 x10 x11 x12 x13 x14 x15 x16 x17 x18 x19 x20 x21 x22 x23 x24 x25 x26 x27 x28 x29 x30 x31 x32 x33 x34 x35 x36 x37 x38 x39 x40 x41 x42 x43 x44 x45 x46 x47 x48 x49 x50 x51 x52 x53 x54 x55 x56 x57 x58 x59 x60 x61 x62 x63 x64 x65 x66 x67 x68 x69 x70 x71 x72 x73 x74 x75 x76 x77 x78 x79 x80 x81 x82 x83, a = #[x0, x1, x2, x3, x4, x5, x6, x7, x8, x9, x10, x11, x12, x13, x14, x15, x16, x17, x18, x19, x20, x21, x22, x23, x24, x25, x26, x27, x28, x29, x30, x31, x32, x33, x34, x35, x36, x37, x38, x39, x40, x41, x42, x43, x44, x45, x46, x47, x48, x49, x50, x51, x52, x53, x54, x55, x56, x57, x58, x59, x60, x61, x62, x63, x64, x65, x66, x67, x68, x69, x70, x71, x72, x73, x74, x75, x76, x77, x78, x79, x80, x81, x82, x83] := by
  obtain ⟨l⟩ := a
  have h' : l.length = 84 := by simpa using h
  clear h
  obtain _ | ⟨x0, l⟩ := l
  · simp at h'
  obtain _ | ⟨x1, l⟩ := l
  · simp at h'
  obtain _ | ⟨x2, l⟩ := l
  · simp at h'
  obtain _ | ⟨x3, l⟩ := l
  · simp at h'
  obtain _ | ⟨x4, l⟩ := l
  · simp at h'
  obtain _ | ⟨x5, l⟩ := l
  · simp at h'
  obtain _ | ⟨x6, l⟩ := l
  · simp at h'
  obtain _ | ⟨x7, l⟩ := l
  · simp at h'
  obtain _ | ⟨x8, l⟩ := l
  · simp at h'
  obtain _ | ⟨x9, l⟩ := l
  · simp at h'
  obtain _ | ⟨x10, l⟩ := l
  · simp at h'
  obtain _ | ⟨x11, l⟩ := l
  · simp at h'
  obtain _ | ⟨x12, l⟩ := l
  · simp at h'
  obtain _ | ⟨x13, l⟩ := l
  · simp at h'
  obtain _ | ⟨x14, l⟩ := l
  · simp at h'
  obtain _ | ⟨x15, l⟩ := l
  · simp at h'
  obtain _ | ⟨x16, l⟩ := l
  · simp at h'
  obtain _ | ⟨x17, l⟩ := l
  · simp at h'
  obtain _ | ⟨x18, l⟩ := l
  · simp at h'
  obtain _ | ⟨x19, l⟩ := l
  · simp at h'
  obtain _ | ⟨x20, l⟩ := l
  · simp at h'
  obtain _ | ⟨x21, l⟩ := l
  · simp at h'
  obtain _ | ⟨x22, l⟩ := l
  · simp at h'
  obtain _ | ⟨x23, l⟩ := l
  · simp at h'
  obtain _ | ⟨x24, l⟩ := l
  · simp at h'
  obtain _ | ⟨x25, l⟩ := l
  · simp at h'
  obtain _ | ⟨x26, l⟩ := l
  · simp at h'
  obtain _ | ⟨x27, l⟩ := l
  · simp at h'
  obtain _ | ⟨x28, l⟩ := l
  · simp at h'
  obtain _ | ⟨x29, l⟩ := l
  · simp at h'
  obtain _ | ⟨x30, l⟩ := l
  · simp at h'
  obtain _ | ⟨x31, l⟩ := l
  · simp at h'
  obtain _ | ⟨x32, l⟩ := l
  · simp at h'
  obtain _ | ⟨x33, l⟩ := l
  · simp at h'
  obtain _ | ⟨x34, l⟩ := l
  · simp at h'
  obtain _ | ⟨x35, l⟩ := l
  · simp at h'
  obtain _ | ⟨x36, l⟩ := l
  · simp at h'
  obtain _ | ⟨x37, l⟩ := l
  · simp at h'
  obtain _ | ⟨x38, l⟩ := l
  · simp at h'
  obtain _ | ⟨x39, l⟩ := l
  · simp at h'
  obtain _ | ⟨x40, l⟩ := l
  · simp at h'
  obtain _ | ⟨x41, l⟩ := l
  · simp at h'
  obtain _ | ⟨x42, l⟩ := l
  · simp at h'
  obtain _ | ⟨x43, l⟩ := l
  · simp at h'
  obtain _ | ⟨x44, l⟩ := l
  · simp at h'
  obtain _ | ⟨x45, l⟩ := l
  · simp at h'
  obtain _ | ⟨x46, l⟩ := l
  · simp at h'
  obtain _ | ⟨x47, l⟩ := l
  · simp at h'
  obtain _ | ⟨x48, l⟩ := l
  · simp at h'
  obtain _ | ⟨x49, l⟩ := l
  · simp at h'
  obtain _ | ⟨x50, l⟩ := l
  · simp at h'
  obtain _ | ⟨x51, l⟩ := l
  · simp at h'
  obtain _ | ⟨x52, l⟩ := l
  · simp at h'
  obtain _ | ⟨x53, l⟩ := l
  · simp at h'
  obtain _ | ⟨x54, l⟩ := l
  · simp at h'
  obtain _ | ⟨x55, l⟩ := l
  · simp at h'
  obtain _ | ⟨x56, l⟩ := l
  · simp at h'
  obtain _ | ⟨x57, l⟩ := l
  · simp at h'
  obtain _ | ⟨x58, l⟩ := l
  · simp at h'
  obtain _ | ⟨x59, l⟩ := l
  · simp at h'
  obtain _ | ⟨x60, l⟩ := l
  · simp at h'
  obtain _ | ⟨x61, l⟩ := l
  · simp at h'
  obtain _ | ⟨x62, l⟩ := l
  · simp at h'
  obtain _ | ⟨x63, l⟩ := l
  · simp at h'
  obtain _ | ⟨x64, l⟩ := l
  · simp at h'
  obtain _ | ⟨x65, l⟩ := l
  · simp at h'
  obtain _ | ⟨x66, l⟩ := l
  · simp at h'
  obtain _ | ⟨x67, l⟩ := l
  · simp at h'
  obtain _ | ⟨x68, l⟩ := l
  · simp at h'
  obtain _ | ⟨x69, l⟩ := l
  · simp at h'
  obtain _ | ⟨x70, l⟩ := l
  · simp at h'
  obtain _ | ⟨x71, l⟩ := l
  · simp at h'
  obtain _ | ⟨x72, l⟩ := l
  · simp at h'
  obtain _ | ⟨x73, l⟩ := l
  · simp at h'
  obtain _ | ⟨x74, l⟩ := l
  · simp at h'
  obtain _ | ⟨x75, l⟩ := l
  · simp at h'
  obtain _ | ⟨x76, l⟩ := l
  · simp at h'
  obtain _ | ⟨x77, l⟩ := l
  · simp at h'
  obtain _ | ⟨x78, l⟩ := l
  · simp at h'
  obtain _ | ⟨x79, l⟩ := l
  · simp at h'
  obtain _ | ⟨x80, l⟩ := l
  · simp at h'
  obtain _ | ⟨x81, l⟩ := l
  · simp at h'
  obtain _ | ⟨x82, l⟩ := l
  · simp at h'
  obtain _ | ⟨x83, l⟩ := l
  · simp at h'
  have hl : l = [] := List.eq_nil_of_length_eq_zero (by simpa using h')
  subst hl
  exact ⟨x0, x1, x2, x3, x4, x5, x6, x7, x8, x9, x10, x11, x12, x13, x14, x15, x16, x17, x18, x19, x20, x21, x22, x23, x24, x25, x26, x27, x28, x29, x30, x31, x32, x33, x34, x35, x36, x37, x38, x39, x40, x41, x42, x43, x44, x45, x46, x47, x48, x49, x50, x51, x52, x53, x54, x55, x56, x57, x58, x59, x60, x61, x62, x63, x64, x65, x66, x67, x68, x69, x70, x71, x72, x73, x74, x75, x76, x77, x78, x79, x80, x81, x82, x83, rfl⟩

set_option maxRecDepth 100000 in
set_option maxHeartbeats 8000000 in
theorem commitSteps1 {B n : Nat} (hn : 8 ≤ n ∧ n ≤ 512) {w : World} {f r m p d q : Nat} (hFr : Fresh B n w f r m p d q) (db : Nat) (hdb : w.cell? ⟨db, 0, none⟩ = some (.int .i64 2)) (ra : Addr) (rc : Nat) (hrc : 1 ≤ rc) (hrd : RRead w (.slice (some ra) 1 rc) run1) :
    Calls Tryz.prog 30 #[.pointer (some ⟨f, 0, none⟩), .agg #[.slice (some ⟨db, 0, none⟩) 1 1, .slice (some ⟨q, 0, none⟩) 1 1, .slice (some ra) 1 rc]] w fun e w' => ∃ v g1 g2 g3, e = .returned v ∧ Cmt w.heap.size n w' v g1 g2 g3 ∧ Below w.heap.size w w' := by
  obtain ⟨W0, HW0⟩ : ∃ W0, Hid (W0 = w.alloc (.cells #[.slice (some ⟨db, 0, none⟩) 1 1, .slice (some ⟨q, 0, none⟩) 1 1, .slice (some ra) 1 rc] 75)) := ⟨_, rfl⟩
  have hb0 : Below w.heap.size w W0 := by rw [HW0.out]; exact belowA _ _
  have hP0 : W0.heap[w.heap.size]? = some (.cells #[.slice (some ⟨db, 0, none⟩) 1 1, .slice (some ⟨q, 0, none⟩) 1 1, .slice (some ra) 1 rc] 75 (0, 0)) := by rw [HW0.out]; exact heap_alloc_new _ _
  have hs0 : w.heap.size < W0.heap.size := (Array.getElem?_eq_some_iff.1 hP0).1
  have hF0 := (NoSt.of_below hb0).fresh hFr
  have hdl : db < w.heap.size := World.block_lt_of_cell? _ _ hdb
  have hd0 : W0.cell? ⟨db, 0, none⟩ = some (.int .i64 2) := (hb0.cell (p := ⟨db, 0, none⟩) hdl).trans hdb
  have hr0 := hrd.below hb0
  have HPC : Hid (∀ W : World, Below W0.heap.size W0 W → W.cell? ⟨w.heap.size, 0, none⟩ = some (.slice (some ⟨db, 0, none⟩) 1 1) ∧ W.cell? ⟨w.heap.size, 1, none⟩ = some (.slice (some ⟨q, 0, none⟩) 1 1) ∧ W.cell? ⟨w.heap.size, 2, none⟩ = some (.slice (some ra) 1 rc)) := fun W h => by
    have e := (h.block _ hs0).trans hP0
    simp [World.cell?, e]
  have HF : Hid (∀ W : World, Below W0.heap.size W0 W → Fresh B n W f r m p d q) := fun W h => (NoSt.of_below h).fresh hF0
  have HD : Hid (∀ W : World, Below W0.heap.size W0 W → W.cell? ⟨db, 0, none⟩ = some (.int .i64 2)) := fun W h => (h.cell (p := ⟨db, 0, none⟩) (by show db < W0.heap.size; omega)).trans hd0
  have HR : Hid (∀ W : World, Below W0.heap.size W0 W → RRead W (.slice (some ra) 1 rc) run1) := fun W h => hr0.below h
  have HS0 : Hid (w.heap.size ≤ W0.heap.size) := Nat.le_of_lt hs0
  have HB0 : Hid (Below w.heap.size w W0) := hb0
  obtain ⟨x0, x1, x2⟩ := HPC.out W0 (Below.refl _ _)
  clear hb0 hP0 hs0 hF0 hdl hd0 hr0 hFr hdb hrd
  go_enter Tryz.func30, Tryz.ntmps30
  go_upto_region 1 with fail
  rw [← HW0.out]
  go_wp2_with fail
  clear x0 x1 x2
  go_loopw [5, 19] (fun st i wr => ∃ k : Nat, k ≤ 1 ∧ i = .int .i64 k ∧ Below W0.heap.size W0 wr ∧ ∃ g1, (k = 0 → st = .slice none 0 0) ∧ (k = 1 → StR W0.heap.size wr st 1 [.int .i64 1, .int .i64 2, .slice (some ⟨g1, 0, none⟩) 128 128] ∧ Dat wr g1 121 (slL (headL 1 0)) ∧ W0.heap.size ≤ g1)) (fun _ i _ => 1 - (intOf i).toNat)
  case atStart => exact ⟨0, by omega, rfl, Below.refl _ _, 0, fun _ => rfl, fun h => by omega⟩
  case round =>
    obtain ⟨k, hk, rfl, hb, g1, hk0, hk1⟩ := hrel
    by_cases h0 : k = 0
    · subst h0
      obtain rfl := hk0 rfl
      clear hk0 hk1
      have hF := HF.out wr hb
      obtain ⟨c, hFc⟩ := hF.fst
      have c3 : wr.cell? ⟨f, 3, none⟩ = some (.map (some m)) := by simp [World.cell?, hFc]
      have hlk := hF.map.look
      have n0 : wr.cell? ⟨p, 0, none⟩ = some (.int .i64 1) := by simp [World.cell?, hF.node]
      have n1 : wr.cell? ⟨p, 1, none⟩ = some (.slice none 0 0) := by simp [World.cell?, hF.node]
      have cd := HD.out wr hb
      clear hF hFc
      go_wp2_with fail
      refine (implEncLeaf _).mono ?_
      rintro e w2 ⟨g, rfl, hg, hD, hb2⟩
      have hB2 := hb.trans (hb2.mono hb.size)
      have hgB : W0.heap.size ≤ g := Nat.le_trans hb.size hg
      clear c3 hlk n0 n1 cd
      go_wp2_with fail
      refine (writeStep_any 2 _ _ _ _).mono ?_
      rintro e w3 ⟨rfl, hb3⟩
      have hB3 := hB2.trans (hb3.mono hB2.size)
      have hD3 := hD.below hb3
      have hrow := StR.none W0.heap.size w3
      have hsz := hB3.size
      go_wp2_with (first | (at_builtin; refine wpList_appendSt1 rfl _ _ rfl (.int .i64 1) (.int .i64 2) (.slice (some ⟨g, 0, none⟩) 128 128) rfl hrow rfl rfl (by omega) hsz ?_; intro v' w4 hrow4 hns4 hbl4))
      go_roundw
      case rel => exact ⟨1, by omega, by go_num, hB3.trans hbl4, g, fun h => by omega, fun _ => ⟨by simpa using hrow4, hns4.dat hD3 (by decide), hgB⟩⟩
      case measure => simp [intOf]
    · obtain rfl : k = 1 := by omega
      obtain ⟨hrow, hD1, hg1⟩ := hk1 rfl
      clear hk0 hk1 h0
      obtain ⟨x0, x1, x2⟩ := HPC.out wr hb
      go_wp2_with fail
      refine (tables1 _ _ _ q ra rc hrc wr).mono ?_
      rintro e w2 ⟨t, rfl, hT, hb2⟩
      have hB2 := hb.trans (hb2.mono hb.size)
      have hrow2 := hrow.below hb2
      have hD2 := hD1.below hb2
      clear x0 x1 x2 hrow hD1 hb hb2
      go_wp2_with fail
      go_loopw [5, 45] (fun st i wr => ∃ k : Nat, k ≤ 1 ∧ i = .int .i64 k ∧ Below W0.heap.size W0 wr ∧ NoSt w2 wr ∧ Dat wr g1 121 (slL (headL 1 0)) ∧ ∃ g2, (k = 0 → StR W0.heap.size wr st 1 [.int .i64 1, .int .i64 2, .slice (some ⟨g1, 0, none⟩) 128 128]) ∧ (k = 1 → StR W0.heap.size wr st 2 [.int .i64 1, .int .i64 2, .slice (some ⟨g1, 0, none⟩) 128 128, .int .i64 1, .int .i64 3, .slice (some ⟨g2, 0, none⟩) 128 128] ∧ Dat wr g2 121 (slL (layP 0 run1 1)) ∧ W0.heap.size ≤ g2)) (fun _ i _ => 1 - (intOf i).toNat)
      case atStart => exact ⟨0, by omega, rfl, hB2, NoSt.refl _, hD2, 0, fun _ => hrow2, fun h => by omega⟩
      case round =>
        obtain ⟨k, hk, rfl, hb, hns, hd1, g2, hk0, hk1⟩ := hrel
        by_cases h0 : k = 0
        · subst h0
          have hrow := hk0 rfl
          clear hk0 hk1 hrow2 hD2
          have hT1 := hns.cells hT (by decide)
          have t0 : wr.cell? ⟨t, 0, none⟩ = some (.int .i64 0) := by simp [World.cell?, hT1]
          have t1 : wr.cell? ⟨t, 1, none⟩ = some (.slice (some ra) 1 rc) := by simp [World.cell?, hT1]
          have htl : t < wr.heap.size := World.block_lt_of_cell? _ _ t0
          obtain ⟨W5, HW5⟩ : ∃ W5, Hid (W5 = wr.alloc (.cells #[.int .i64 0, .slice (some ra) 1 rc] 84)) := ⟨_, rfl⟩
          have hb5 : Below wr.heap.size wr W5 := by rw [HW5.out]; exact belowA _ _
          have hB5 := hb.trans (hb5.mono hb.size)
          have hd5 := hd1.below hb5
          have hrow5 := hrow.below hb5
          have hns5 := hns.trans (NoSt.of_below hb5)
          go_wp2_with fail
          rw [← HW5.out]
          refine (implEncT1 (some ra) rc _ (HR.out _ hB5)).mono ?_
          rintro e w6 ⟨g, rfl, hg, hD, hb6⟩
          have hB6 := hB5.trans (hb6.mono hB5.size)
          have hgB : W0.heap.size ≤ g := Nat.le_trans hB5.size hg
          have hd6 := hd5.below hb6
          have hrow6 := hrow5.below hb6
          have hns6 := hns5.trans (NoSt.of_below hb6)
          obtain ⟨c, hFc⟩ := (HF.out w6 hB6).fst
          have hQ := (HF.out w6 hB6).tab
          have cq : w6.cell? ⟨q, 0, none⟩ = some (.int .i64 3) := by simp [World.cell?, hQ]
          obtain ⟨x0, x1, x2⟩ := HPC.out w6 hB6
          clear t0 t1 htl hb5 hB5 hd5 hrow5 hns5 hb6 hFc hQ hrow hd1 hns hb hT1
          go_wp2_with fail
          refine (writeStep_any 3 _ _ _ _).mono ?_
          rintro e w7 ⟨rfl, hb7⟩
          have hB7 := hB6.trans (hb7.mono hB6.size)
          have hD7 := hD.below hb7
          have hd7 := hd6.below hb7
          have hrow7 := hrow6.below hb7
          have hns7 := hns6.trans (NoSt.of_below hb7)
          have hsz := hB7.size
          clear cq x0 x1 x2 hrow6 hd6 hns6 hb7 hD
          go_wp2_with (first | (at_builtin; refine wpList_appendSt1 rfl _ _ rfl (.int .i64 1) (.int .i64 3) (.slice (some ⟨g, 0, none⟩) 128 128) rfl hrow7 rfl rfl (by omega) hsz ?_; intro v' w8 hrow8 hns8 hbl8))
          go_roundw
          case rel => exact ⟨1, by omega, by go_num, hB7.trans hbl8, hns7.trans hns8, hns8.dat hd7 (by decide), g, fun h => by omega, fun _ => ⟨by simpa using hrow8, hns8.dat hD7 (by decide), hgB⟩⟩
          case measure => simp [intOf]
        · obtain rfl : k = 1 := by omega
          obtain ⟨hrow, hD2', hg2⟩ := hk1 rfl
          clear hk0 hk1 h0 hrow2 hD2 hT hns
          have hF := HF.out wr hb
          go_wp2_with fail
          refine (superblock1 hF).mono ?_
          rintro e w3 ⟨rfl, hb3⟩
          have hB3 := hb.trans (hb3.mono hb.size)
          have hR := (HF.out w3 hB3).root
          have r0 : w3.cell? ⟨r, 0, none⟩ = some (.int .i64 0) := by simp [World.cell?, hR]
          have r1 : w3.cell? ⟨r, 1, none⟩ = some (.int .i64 2) := by simp [World.cell?, hR]
          go_wp2_with fail
          refine (implEncS1 n (by omega) r w3 r0 r1).mono ?_
          rintro e w4 ⟨g3, rfl, hg3, hD3, hb4⟩
          have hB4 := hB3.trans (hb4.mono hB3.size)
          have hg3B : W0.heap.size ≤ g3 := Nat.le_trans hB3.size hg3
          have hrow4 := (hrow.below hb3).below hb4
          have hd14 := (hd1.below hb3).below hb4
          have hd24 := (hD2'.below hb3).below hb4
          obtain ⟨c, hFc⟩ := (HF.out w4 hB4).fst
          have c2 : w4.cell? ⟨f, 2, none⟩ = some (.int .i64 1) := by simp [World.cell?, hFc]
          have hfl : f < w4.heap.size := (Array.getElem?_eq_some_iff.1 hFc).1
          clear r0 r1 hR hb3 hb4 hF hFc hrow hd1 hD2' hb HR HD HPC
          go_wp2_with fail
          have HROW : Hid (StR W0.heap.size w4 u5 2 [.int .i64 1, .int .i64 2, .slice (some ⟨g1, 0, none⟩) 128 128, .int .i64 1, .int .i64 3, .slice (some ⟨g2, 0, none⟩) 128 128]) := hrow4
          clear hrow4
          refine wp_region_any (by kernel_rfl) ?_
          refine wpAny_inv (CI w4 W0.heap.size f g3 u5 [.int .i64 1, .int .i64 2, .slice (some ⟨g1, 0, none⟩) 128 128, .int .i64 1, .int .i64 3, .slice (some ⟨g2, 0, none⟩) 128 128]) ?step ?fin (all_listed (ahead_of (by kernel_rfl))) _ _ _ _ (by simp) ?cl (by kernel_rfl) ?ini
          case cl => intro k hk; exfalso; simp [Array.getElem?_replicate] at hk; split at hk <;> simp at hk
          case ini =>
            refine ⟨rfl, rfl, rfl, rfl, rfl, fun _ => ⟨(Below.refl _ _).drew, by simp, fun k hk => ?_⟩, fun hk => ?_⟩
            · exfalso; simp [Array.getElem?_replicate] at hk; split at hk <;> simp at hk
            · exfalso; simp at hk
          case step =>
            intro l a wx hs hcl hI i o ho hnt hnf hd
            have hi13 : i < 13 := by
              by_cases hh : i < 13
              · exact hh
              · rw [Array.getElem?_eq_none (by simpa using Nat.le_of_not_lt hh)] at ho; cases ho
            have ho0 := ho
            match i, hi13 with
            | 0, _ =>
              simp only [List.getElem?_toArray, List.getElem?_cons_zero, Option.some.injEq] at ho; subst ho
              have hn11 : l.getD 11 false = false := by
                cases hh : l.getD 11 false with
                | false => rfl
                | true => have := (hcl 11 hh _ rfl { on := 0, ground := .data } (by simp) rfl); rw [this] at hnf; cases hnf
              obtain ⟨hB, _, hFF⟩ := hI.early hn11
              have fs := hI.s5
              refine wpOp_do ho0 rfl (wp_value (v := u5) (w' := wx) (by simp only [execOp, Act.eval, Sem.run_pure, fs]) ?_)
              exact hI.next (by kernel_rfl) hcl ho0 (by omega) hnf hn11 72 rfl (by omega) (by omega) (by omega) (by omega) _ _ (Below.refl _ _) (rfl)
            | 1, _ =>
              simp only [List.getElem?_toArray, List.getElem?_cons_zero, List.getElem?_cons_succ, Option.some.injEq] at ho; subst ho
              have hn11 : l.getD 11 false = false := by
                cases hh : l.getD 11 false with
                | false => rfl
                | true => have := (hcl 10 (hcl 11 hh _ rfl { on := 10, ground := .data } (by simp) rfl) _ rfl { on := 1, ground := .data } (by simp) rfl); rw [this] at hnf; cases hnf
              obtain ⟨hB, _, hFF⟩ := hI.early hn11
              refine wpOp_do ho0 rfl (wp_enter (f := 29) (args := #[]) (by simp only [execOp, resolve, Act.eval, List.map_toArray, List.map_nil, Sem.run_bind]; kernel_rfl) ?_)
              refine (flushStep_any wx).mono ?_
              rintro e w' ⟨rfl, hbx⟩
              exact ⟨.agg #[.int .i64 2, .int .i64 0, .slice none 0 0], rfl, hI.next (by kernel_rfl) hcl ho0 (by omega) hnf hn11 73 rfl (by omega) (by omega) (by omega) (by omega) _ _ hbx (rfl)⟩
            | 2, _ =>
              simp only [List.getElem?_toArray, List.getElem?_cons_zero, List.getElem?_cons_succ, Option.some.injEq] at ho; subst ho
              have hn11 : l.getD 11 false = false := by
                cases hh : l.getD 11 false with
                | false => rfl
                | true => have := (hcl 3 (hcl 4 (hcl 5 (hcl 6 (hcl 8 (hcl 10 (hcl 11 hh _ rfl { on := 10, ground := .data } (by simp) rfl) _ rfl { on := 8, ground := .data } (by simp) rfl) _ rfl { on := 6, ground := .data } (by simp) rfl) _ rfl { on := 5, ground := .data } (by simp) rfl) _ rfl { on := 4, ground := .data } (by simp) rfl) _ rfl { on := 3, ground := .data } (by simp) rfl) _ rfl { on := 2, ground := .data } (by simp) rfl); rw [this] at hnf; cases hnf
              obtain ⟨hB, _, hFF⟩ := hI.early hn11
              have fs := hI.s0
              refine wpOp_do ho0 rfl (wp_value (v := .pointer (some ⟨f, 0, none⟩)) (w' := wx) (by simp only [execOp, Act.eval, Sem.run_pure, fs]) ?_)
              exact hI.next (by kernel_rfl) hcl ho0 (by omega) hnf hn11 74 rfl (by omega) (by omega) (by omega) (by omega) _ _ (Below.refl _ _) (rfl)
            | 3, _ =>
              simp only [List.getElem?_toArray, List.getElem?_cons_zero, List.getElem?_cons_succ, Option.some.injEq] at ho; subst ho
              have hn11 : l.getD 11 false = false := by
                cases hh : l.getD 11 false with
                | false => rfl
                | true => have := (hcl 4 (hcl 5 (hcl 6 (hcl 8 (hcl 10 (hcl 11 hh _ rfl { on := 10, ground := .data } (by simp) rfl) _ rfl { on := 8, ground := .data } (by simp) rfl) _ rfl { on := 6, ground := .data } (by simp) rfl) _ rfl { on := 5, ground := .data } (by simp) rfl) _ rfl { on := 4, ground := .data } (by simp) rfl) _ rfl { on := 3, ground := .data } (by simp) rfl); rw [this] at hnf; cases hnf
              obtain ⟨hB, _, hFF⟩ := hI.early hn11
              have l2 : l.getD 2 false = true := hd { on := 2, ground := .data } (by simp) rfl
              have f74 : a.tmps.getD 74 undef = .pointer (some ⟨f, 0, none⟩) := hFF 2 l2
              refine wpOp_do ho0 rfl (wp_value (v := .pointer (some ⟨f, 0, none⟩)) (w' := wx) (by simp only [execOp, Act.eval, Sem.run_pure, f74]) ?_)
              exact hI.next (by kernel_rfl) hcl ho0 (by omega) hnf hn11 75 rfl (by omega) (by omega) (by omega) (by omega) _ _ (Below.refl _ _) (rfl)
            | 4, _ =>
              simp only [List.getElem?_toArray, List.getElem?_cons_zero, List.getElem?_cons_succ, Option.some.injEq] at ho; subst ho
              have hn11 : l.getD 11 false = false := by
                cases hh : l.getD 11 false with
                | false => rfl
                | true => have := (hcl 5 (hcl 6 (hcl 8 (hcl 10 (hcl 11 hh _ rfl { on := 10, ground := .data } (by simp) rfl) _ rfl { on := 8, ground := .data } (by simp) rfl) _ rfl { on := 6, ground := .data } (by simp) rfl) _ rfl { on := 5, ground := .data } (by simp) rfl) _ rfl { on := 4, ground := .data } (by simp) rfl); rw [this] at hnf; cases hnf
              obtain ⟨hB, _, hFF⟩ := hI.early hn11
              have l3 : l.getD 3 false = true := hd { on := 3, ground := .data } (by simp) rfl
              have f75 : a.tmps.getD 75 undef = .pointer (some ⟨f, 0, none⟩) := hFF 3 l3
              refine wpOp_do ho0 rfl (wp_value (v := .pointer (some ⟨f, 2, none⟩)) (w' := wx) (by simp only [execOp, Act.eval, Sem.run_bind, Sem.run_pure, Result.andThen_ok, f75, fieldF f 2 rfl]) ?_)
              exact hI.next (by kernel_rfl) hcl ho0 (by omega) hnf hn11 76 rfl (by omega) (by omega) (by omega) (by omega) _ _ (Below.refl _ _) (rfl)
            | 5, _ =>
              simp only [List.getElem?_toArray, List.getElem?_cons_zero, List.getElem?_cons_succ, Option.some.injEq] at ho; subst ho
              have hn11 : l.getD 11 false = false := by
                cases hh : l.getD 11 false with
                | false => rfl
                | true => have := (hcl 6 (hcl 8 (hcl 10 (hcl 11 hh _ rfl { on := 10, ground := .data } (by simp) rfl) _ rfl { on := 8, ground := .data } (by simp) rfl) _ rfl { on := 6, ground := .data } (by simp) rfl) _ rfl { on := 5, ground := .data } (by simp) rfl); rw [this] at hnf; cases hnf
              obtain ⟨hB, _, hFF⟩ := hI.early hn11
              have l4 : l.getD 4 false = true := hd { on := 4, ground := .data } (by simp) rfl
              have f76 : a.tmps.getD 76 undef = .pointer (some ⟨f, 2, none⟩) := hFF 4 l4
              have cx : wx.cell? ⟨f, 2, none⟩ = some (.int .i64 1) := (hB.cell (p := ⟨f, 2, none⟩) hfl).trans c2
              refine wpOp_do ho0 rfl (wp_value (v := .int .i64 1) (w' := wx) (by simp only [execOp, Act.eval, Sem.run_bind, Sem.run_pure, Result.andThen_ok, f76, loadI cx]) ?_)
              exact hI.next (by kernel_rfl) hcl ho0 (by omega) hnf hn11 77 rfl (by omega) (by omega) (by omega) (by omega) _ _ (Below.refl _ _) (rfl)
            | 6, _ =>
              simp only [List.getElem?_toArray, List.getElem?_cons_zero, List.getElem?_cons_succ, Option.some.injEq] at ho; subst ho
              have hn11 : l.getD 11 false = false := by
                cases hh : l.getD 11 false with
                | false => rfl
                | true => have := (hcl 8 (hcl 10 (hcl 11 hh _ rfl { on := 10, ground := .data } (by simp) rfl) _ rfl { on := 8, ground := .data } (by simp) rfl) _ rfl { on := 6, ground := .data } (by simp) rfl); rw [this] at hnf; cases hnf
              obtain ⟨hB, _, hFF⟩ := hI.early hn11
              have l5 : l.getD 5 false = true := hd { on := 5, ground := .data } (by simp) rfl
              have f77 : a.tmps.getD 77 undef = .int .i64 1 := hFF 5 l5
              refine wpOp_do ho0 rfl (wp_enter (f := 42) (args := #[.int .i64 1]) (by simp only [execOp, resolve, Act.eval, List.map_toArray, List.map_cons, List.map_nil, Sem.run_bind, f77]; kernel_rfl) ?_)
              refine (slotOf1 wx).mono ?_
              rintro e w' ⟨rfl, rfl⟩
              exact ⟨.int .i64 1, rfl, hI.next (by kernel_rfl) hcl ho0 (by omega) hnf hn11 78 rfl (by omega) (by omega) (by omega) (by omega) _ _ (Below.refl _ _) (rfl)⟩
            | 7, _ =>
              simp only [List.getElem?_toArray, List.getElem?_cons_zero, List.getElem?_cons_succ, Option.some.injEq] at ho; subst ho
              have hn11 : l.getD 11 false = false := by
                cases hh : l.getD 11 false with
                | false => rfl
                | true => have := (hcl 8 (hcl 10 (hcl 11 hh _ rfl { on := 10, ground := .data } (by simp) rfl) _ rfl { on := 8, ground := .data } (by simp) rfl) _ rfl { on := 7, ground := .data } (by simp) rfl); rw [this] at hnf; cases hnf
              obtain ⟨hB, _, hFF⟩ := hI.early hn11
              have fs := hI.s14
              refine wpOp_do ho0 rfl (wp_value (v := .slice (some ⟨g3, 0, none⟩) 128 128) (w' := wx) (by simp only [execOp, Act.eval, Sem.run_pure, fs]) ?_)
              exact hI.next (by kernel_rfl) hcl ho0 (by omega) hnf hn11 79 rfl (by omega) (by omega) (by omega) (by omega) _ _ (Below.refl _ _) (rfl)
            | 8, _ =>
              simp only [List.getElem?_toArray, List.getElem?_cons_zero, List.getElem?_cons_succ, Option.some.injEq] at ho; subst ho
              have hn11 : l.getD 11 false = false := by
                cases hh : l.getD 11 false with
                | false => rfl
                | true => have := (hcl 10 (hcl 11 hh _ rfl { on := 10, ground := .data } (by simp) rfl) _ rfl { on := 8, ground := .data } (by simp) rfl); rw [this] at hnf; cases hnf
              obtain ⟨hB, _, hFF⟩ := hI.early hn11
              have l6 : l.getD 6 false = true := hd { on := 6, ground := .data } (by simp) rfl
              have l7 : l.getD 7 false = true := hd { on := 7, ground := .data } (by simp) rfl
              have f78 : a.tmps.getD 78 undef = .int .i64 1 := hFF 6 l6
              have f79 : a.tmps.getD 79 undef = .slice (some ⟨g3, 0, none⟩) 128 128 := hFF 7 l7
              refine wpOp_do ho0 rfl (wp_enter (f := 26) (args := #[.int .i64 1, .slice (some ⟨g3, 0, none⟩) 128 128]) (by simp only [execOp, resolve, Act.eval, List.map_toArray, List.map_cons, List.map_nil, Sem.run_bind, f78, f79]; kernel_rfl) ?_)
              refine (writeStep_any 1 _ _ _ wx).mono ?_
              rintro e w' ⟨rfl, hbx⟩
              exact ⟨.agg #[.int .i64 1, .int .i64 1, .slice (some ⟨g3, 0, none⟩) 128 128], rfl, hI.next (by kernel_rfl) hcl ho0 (by omega) hnf hn11 80 rfl (by omega) (by omega) (by omega) (by omega) _ _ hbx (rfl)⟩
            | 9, _ =>
              simp only [List.getElem?_toArray, List.getElem?_cons_zero, List.getElem?_cons_succ, Option.some.injEq] at ho; subst ho
              have hn11 : l.getD 11 false = false := by
                cases hh : l.getD 11 false with
                | false => rfl
                | true => have := (hcl 10 (hcl 11 hh _ rfl { on := 10, ground := .data } (by simp) rfl) _ rfl { on := 9, ground := .data } (by simp) rfl); rw [this] at hnf; cases hnf
              obtain ⟨hB, _, hFF⟩ := hI.early hn11
              refine wpOp_do ho0 rfl (wp_enter (f := 29) (args := #[]) (by simp only [execOp, resolve, Act.eval, List.map_toArray, List.map_nil, Sem.run_bind]; kernel_rfl) ?_)
              refine (flushStep_any wx).mono ?_
              rintro e w' ⟨rfl, hbx⟩
              exact ⟨.agg #[.int .i64 2, .int .i64 0, .slice none 0 0], rfl, hI.next (by kernel_rfl) hcl ho0 (by omega) hnf hn11 81 rfl (by omega) (by omega) (by omega) (by omega) _ _ hbx (rfl)⟩
            | 10, _ =>
              simp only [List.getElem?_toArray, List.getElem?_cons_zero, List.getElem?_cons_succ, Option.some.injEq] at ho; subst ho
              have hn11 : l.getD 11 false = false := by
                cases hh : l.getD 11 false with
                | false => rfl
                | true => have := (hcl 11 hh _ rfl { on := 10, ground := .data } (by simp) rfl); rw [this] at hnf; cases hnf
              obtain ⟨hB, _, hFF⟩ := hI.early hn11
              have l1 : l.getD 1 false = true := hd { on := 1, ground := .data } (by simp) rfl
              have l8 : l.getD 8 false = true := hd { on := 8, ground := .data } (by simp) rfl
              have l9 : l.getD 9 false = true := hd { on := 9, ground := .data } (by simp) rfl
              have f73 : a.tmps.getD 73 undef = .agg #[.int .i64 2, .int .i64 0, .slice none 0 0] := hFF 1 l1
              have f80 : a.tmps.getD 80 undef = .agg #[.int .i64 1, .int .i64 1, .slice (some ⟨g3, 0, none⟩) 128 128] := hFF 8 l8
              have f81 : a.tmps.getD 81 undef = .agg #[.int .i64 2, .int .i64 0, .slice none 0 0] := hFF 9 l9
              refine wpOp_do ho0 rfl (wp_value (v := .slice (some ⟨wx.heap.size, 0, none⟩) 3 3) (w' := (wx.alloc (.cells #[.int .i64 2, .int .i64 0, .slice none 0 0, .int .i64 1, .int .i64 1, .slice (some ⟨g3, 0, none⟩) 128 128, .int .i64 2, .int .i64 0, .slice none 0 0] 50))) (by simp only [execOp, Act.eval, List.map_toArray, List.map_cons, List.map_nil, Sem.run_bind, Sem.run_pure, Result.andThen_ok, f73, f80, f81, build9]) ?_)
              exact hI.next (by kernel_rfl) hcl ho0 (by omega) hnf hn11 82 rfl (by omega) (by omega) (by omega) (by omega) _ _ (belowA wx _) (⟨_, rfl, heap_alloc_new wx _⟩)
            | 11, _ =>
              simp only [List.getElem?_toArray, List.getElem?_cons_zero, List.getElem?_cons_succ, Option.some.injEq] at ho; subst ho
              have l0 : l.getD 0 false = true := hd { on := 0, ground := .data } (by simp) rfl
              have l10 : l.getD 10 false = true := hd { on := 10, ground := .data } (by simp) rfl
              obtain ⟨hB, h12, hFF⟩ := hI.early hnf
              have f72 : a.tmps.getD 72 undef = u5 := hFF 0 l0
              obtain ⟨x, f82, hx⟩ := hFF 10 l10
              simp only at f82
              have hsz := hI.size
              refine wpOp_do ho0 rfl (wp_appendSt (.tmp 72) (.tmp 82) rfl (HROW.out.below hB) f72 ⟨x, 0, none⟩ 3 3 f82 [.int .i64 2, .int .i64 0, .slice none 0 0, .int .i64 1, .int .i64 1, .slice (some ⟨g3, 0, none⟩) 128 128, .int .i64 2, .int .i64 0, .slice none 0 0] rfl (fun j u hj => by rw [Addr.add_mid, Nat.zero_add]; simp only [World.cell?, hx]; simpa using hj) (fun u hu => List.all_eq_true.1 (show ([.int .i64 2, .int .i64 0, .slice none 0 0, .int .i64 1, .int .i64 1, .slice (some ⟨g3, 0, none⟩) 128 128, .int .i64 2, .int .i64 0, .slice none 0 0] : List Value).all (·.oneCell') = true from rfl) u hu) (by omega) (Nat.le_trans hB4.size hB.size) ?_)
              intro v' w' hr' hg' hns' hbl'
              have e11 : (l.setIfInBounds 11 true).getD 11 false = true := getD_set_self hnt
              have gg := fun s => put_get a 83 s v' (by omega)
              refine ⟨by simp [Act.put, hsz], hI.defers, by rw [gg]; exact hI.s0, by rw [gg]; exact hI.s5, by rw [gg]; exact hI.s14, fun hf => ?_, fun _ => ⟨(NoSt.of_below hB).trans hns', (hB.mono hB4.size).trans hbl', ?_, fun ht => ?_⟩⟩
              · rw [e11] at hf; cases hf
              · rw [gg, if_pos rfl]; exact hr'
              · rw [getD_set_ne false (show (11 : Nat) ≠ 12 by omega), h12] at ht; cases ht
            | 12, _ =>
              simp only [List.getElem?_toArray, List.getElem?_cons_zero, List.getElem?_cons_succ, Option.some.injEq] at ho; subst ho
              have l11 : l.getD 11 false = true := hd { on := 11, ground := .data } (by simp) rfl
              obtain ⟨h1, h2, h3, _⟩ := hI.late l11
              have hsz := hI.size
              refine wpOp_do ho0 rfl (wp_value (v := a.tmps.getD 83 undef) (w' := wx) (by simp only [execOp, Act.eval, Sem.run_pure]) ?_)
              have gg := fun s => put_get a 4 s (a.tmps.getD 83 undef) (by omega)
              have e11 : (l.setIfInBounds 12 true).getD 11 false = true := (getD_set_ne false (show (12 : Nat) ≠ 11 by omega)).trans l11
              refine ⟨by simp [Act.put, hsz], hI.defers, by rw [gg]; exact hI.s0, by rw [gg]; exact hI.s5, by rw [gg]; exact hI.s14, fun hf => ?_, fun _ => ⟨h1, h2, ?_, fun _ => ?_⟩⟩
              · rw [e11] at hf; cases hf
              · rw [gg]; exact h3
              · rw [gg, gg]; rfl
          case fin =>
            intro l a wx hs hI hall
            obtain ⟨h1, h2, h3, h4⟩ := hI.late (hall 11 (by decide))
            have h5 := h4 (hall 12 (by decide))
            obtain ⟨tm, df⟩ := a
            have hdf : df = [] := hI.defers
            subst hdf
            have hsz : tm.size = 84 := hI.size
            have hrv : StR W0.heap.size wx (tm.getD 4 undef) 5 ([.int .i64 1, .int .i64 2, .slice (some ⟨g1, 0, none⟩) 128 128, .int .i64 1, .int .i64 3, .slice (some ⟨g2, 0, none⟩) 128 128] ++ [.int .i64 2, .int .i64 0, .slice none 0 0, .int .i64 1, .int .i64 1, .slice (some ⟨g3, 0, none⟩) 128 128, .int .i64 2, .int .i64 0, .slice none 0 0]) := by
              have h5' : tm.getD 4 undef = tm.getD 83 undef := h5
              rw [h5']; exact h3
            have hC : Cmt w.heap.size n wx (tm.getD 4 undef) g1 g2 g3 := ⟨hrv.lower HS0.out, h1.dat hd14 (by decide), h1.dat hd24 (by decide), h1.dat hD3 (by decide), Nat.le_trans HS0.out hg1, Nat.le_trans HS0.out hg2, Nat.le_trans HS0.out hg3B⟩
            have hBw : Below w.heap.size w wx := (HB0.out.trans (hB4.mono HS0.out)).trans (h2.mono HS0.out)
            clear hI hall h1 h2 h3 h4 h5 hrv
            obtain ⟨x0, x1, x2, x3, x4, x5, x6, x7, x8, x9, x10, x11, x12, x13, x14, x15, x16, x17, x18, x19, x20, x21, x22, x23, x24, x25, x26, x27, x28, x29, x30, x31, x32, x33, x34, x35, x36, x37, x38, x39, x40, x41, x42, x43, x44, x45, x46, x47, x48, x49, x50, x51, x52, x53, x54, x55, x56, x57, x58, x59, x60, x61, x62, x63, x64, x65, x66, x67, x68, x69, x70, x71, x72, x73, x74, x75, x76, x77, x78, x79, x80, x81, x82, x83, rfl⟩ := arr84 tm hsz
            have HC : Hid (Cmt w.heap.size n wx x4 g1 g2 g3) := hC
            clear hC hsz
            go_wp2_with fail
            go_ret
            exact ⟨x4, g1, g2, g3, rfl, HC.out, hBw⟩

end Go.Proofs.YtpjdhfbeofdplaaGreatDoor
