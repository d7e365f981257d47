import Derived.Test.YtpjdhfbeofdplaaGreatDoorMk3
import Derived.Test.YtpjdhfbeofdplaaGreatDoorNx
import Derived.Test.YtpjdhfbeofdplaaGreatDoorInv
import Derived.MapKept
import Derived.WideMake
namespace Go.Proofs.YtpjdhfbeofdplaaGreatDoor
open Go.RowKit
set_option linter.unusedVariables false

/-- block r holds these cells -/
def Is (B : Nat) (w : World) (r : Nat) (cs : Array Value) (t : TypeId) : Prop := B ≤ r ∧ w.heap[r]? = some (.cells cs t (0, 0))
/-- block m holds the map of one entry: block 2, whose node lies at p -/
def NMap (w : World) (m p : Nat) : Prop := ∃ es c, w.heap[m]? = some (.map es c) ∧ Instr.findNow (.int .i64) (.int .i64 2) es.toList 0 = some (some (0, .pointer (some ⟨p, 0, none⟩))) ∧ es.size = 1

/-- what operation k leaves, once it is carried out -/
def FF (B n : Nat) (w : World) (t : Nat → Value) (l5 : Bool) : Nat → Prop
  | 0 => t 4 = .agg #[.int .i64 0, .int .i64 2]
  | 1 => ∃ r, t 5 = .slice (some ⟨r, 0, none⟩) 1 1 ∧ Is B w r #[.int .i64 0, .int .i64 2] 68
  | 2 => ∃ m, t 6 = .map (some m) ∧ B ≤ m ∧ (∃ es c, w.heap[m]? = some (.map es c)) ∧ (l5 = false → w.heap[m]? = some (.map #[] 0))
  | 3 => t 7 = .agg #[.int .i64 1, .slice none 0 0]
  | 4 => ∃ p, t 8 = .pointer (some ⟨p, 0, none⟩) ∧ Is B w p #[.int .i64 1, .slice none 0 0] 54
  | 5 => ∃ m p, t 6 = .map (some m) ∧ t 8 = .pointer (some ⟨p, 0, none⟩) ∧ NMap w m p
  | 6 => t 9 = t 6
  | 7 => t 10 = .int .i64 n
  | 8 => ∃ c, t 11 = .slice (some ⟨c, 0, none⟩) n n ∧ Is B w c (i64s (List.replicate n 0)) 2
  | 9 => t 12 = .int .i64 n
  | 10 => ∃ d, t 13 = .slice (some ⟨d, 0, none⟩) n n ∧ Is B w d (i64s (List.replicate n 0)) 2
  | 11 => ∃ q, t 14 = .slice (some ⟨q, 0, none⟩) 1 1 ∧ Is B w q #[.int .i64 3] 2
  | 12 => t 15 = .agg #[t 5, .int .i64 1, .int .i64 1, t 9, t 11, t 13, t 14, .slice none 0 0]
  | 13 => ∃ f cs, t 15 = .agg cs ∧ t 16 = .pointer (some ⟨f, 0, none⟩) ∧ Is B w f cs 72
  | 14 => t 3 = t 16
  | _ => True

/-- the slots that FF k names -/
def ffSl : List (List Nat) := [[4], [5], [6], [7], [8], [6, 8], [9, 6], [10], [11], [12], [13], [14], [15, 5, 9, 11, 13, 14], [15, 16], [3, 16]]

/-- cells are kept; maps too, if ok -/
def Kp (w w' : World) (ok : Prop) : Prop := (∀ (g : Nat) cs t fr, w.heap[g]? = some (Obj.cells cs t fr) → w'.heap[g]? = some (Obj.cells cs t fr)) ∧ (∀ (g : Nat) es c, w.heap[g]? = some (Obj.map es c) → ∃ es c, w'.heap[g]? = some (Obj.map es c)) ∧ (ok → ∀ (g : Nat) es c, w.heap[g]? = some (Obj.map es c) → w'.heap[g]? = some (Obj.map es c))
theorem Kp.same (w : World) : Kp w w True := ⟨fun _ _ _ _ h => h, fun _ es c h => ⟨es, c, h⟩, fun _ _ _ _ h => h⟩
theorem Kp.below {w w' : World} (h : Below w.heap.size w w') : Kp w w' True :=
  ⟨fun g _ _ _ e => (h.block g (Array.getElem?_eq_some_iff.1 e).1).trans e, fun g es c e => ⟨es, c, (h.block g (Array.getElem?_eq_some_iff.1 e).1).trans e⟩, fun _ g _ _ e => (h.block g (Array.getElem?_eq_some_iff.1 e).1).trans e⟩

theorem FF.keep {B n : Nat} {w w' : World} {t t' : Nat → Value} {l l' : Bool} {k : Nat} (h : FF B n w t l k) (hl : l' = false → l = false ∧ True) (hs : ∀ s ∈ ffSl.getD k [], t' s = t s) (hk : Kp w w' (k = 5 ∨ l' = false)) : FF B n w' t' l' k := by
  obtain ⟨k1, k2, k3⟩ := hk
  match k with
  | 0 => exact (hs 4 (by simp [ffSl])).trans h
  | 1 => obtain ⟨r, e, h1, h2⟩ := h; exact ⟨r, (hs 5 (by simp [ffSl])).trans e, h1, k1 _ _ _ _ h2⟩
  | 2 => obtain ⟨m, e, h1, ⟨es, c, h2⟩, h3⟩ := h; exact ⟨m, (hs 6 (by simp [ffSl])).trans e, h1, k2 _ _ _ h2, fun hf => k3 (.inr hf) _ _ _ (h3 (hl hf).1)⟩
  | 3 => exact (hs 7 (by simp [ffSl])).trans h
  | 4 => obtain ⟨r, e, h1, h2⟩ := h; exact ⟨r, (hs 8 (by simp [ffSl])).trans e, h1, k1 _ _ _ _ h2⟩
  | 5 => obtain ⟨m, p, e1, e2, es, c, h1, h2⟩ := h; exact ⟨m, p, (hs 6 (by simp [ffSl])).trans e1, (hs 8 (by simp [ffSl])).trans e2, es, c, k3 (.inl rfl) _ _ _ h1, h2⟩
  | 6 => exact ((hs 9 (by simp [ffSl])).trans h).trans (hs 6 (by simp [ffSl])).symm
  | 7 => exact (hs 10 (by simp [ffSl])).trans h
  | 8 => obtain ⟨r, e, h1, h2⟩ := h; exact ⟨r, (hs 11 (by simp [ffSl])).trans e, h1, k1 _ _ _ _ h2⟩
  | 9 => exact (hs 12 (by simp [ffSl])).trans h
  | 10 => obtain ⟨r, e, h1, h2⟩ := h; exact ⟨r, (hs 13 (by simp [ffSl])).trans e, h1, k1 _ _ _ _ h2⟩
  | 11 => obtain ⟨r, e, h1, h2⟩ := h; exact ⟨r, (hs 14 (by simp [ffSl])).trans e, h1, k1 _ _ _ _ h2⟩
  | 12 =>
    have h' : t 15 = .agg #[t 5, .int .i64 1, .int .i64 1, t 9, t 11, t 13, t 14, .slice none 0 0] := h
    show t' 15 = .agg #[t' 5, .int .i64 1, .int .i64 1, t' 9, t' 11, t' 13, t' 14, .slice none 0 0]
    rw [hs 15 (by simp [ffSl]), hs 5 (by simp [ffSl]), hs 9 (by simp [ffSl]), hs 11 (by simp [ffSl]), hs 13 (by simp [ffSl]), hs 14 (by simp [ffSl])]; exact h'
  | 13 => obtain ⟨f, cs, e1, e2, h1, h2⟩ := h; exact ⟨f, cs, (hs 15 (by simp [ffSl])).trans e1, (hs 16 (by simp [ffSl])).trans e2, h1, k1 _ _ _ _ h2⟩
  | 14 => exact ((hs 3 (by simp [ffSl])).trans h).trans (hs 16 (by simp [ffSl])).symm
  | k + 15 => trivial

/-- the literal under way -/
structure FI (w0 : World) (n : Nat) (l : Array Bool) (a : Act) (w : World) : Prop where
  size : a.tmps.size = 33
  defers : a.defers = []
  arg : a.tmps.getD 0 undef = .int .i64 n
  below : Below w0.heap.size w0 w
  facts : ∀ k, l.getD k false = true → FF w0.heap.size n w (fun s => a.tmps.getD s undef) (l.getD 5 false) k
  apart : l.getD 8 false = true → l.getD 10 false = true → a.tmps.getD 11 undef ≠ a.tmps.getD 13 undef

/-- who waits for whom, and which slot each writes -/
def ffDeps (ops : Array Oper) : Bool := (List.range 15).all fun k => (ffSl.getD k []).all fun s => (List.range 15).all fun i => i == k || (((ops[i]?).bind (·.dst)) != some s) || (((ops[k]?).map fun o => o.after.toList.any fun e => Region.binds .any e && e.on == i).getD false)

theorem ff_free {ops : Array Oper} (hd : ffDeps ops = true) {l : Array Bool} (hcl : Clsd .any ops l) {i k : Nat} (hi : i < 15) (hk : k < 15) (hl : l.getD k false = true) (hn : l.getD i false = false) {o : Oper} (ho : ops[i]? = some o) {s : Nat} (hs : s ∈ ffSl.getD k []) : o.dst ≠ some s := by
  intro he
  have hki : i ≠ k := fun e => by subst e; rw [hl] at hn; cases hn
  have h1 := List.all_eq_true.1 hd k (List.mem_range.2 hk)
  have h2 := List.all_eq_true.1 h1 s hs
  have h3 := List.all_eq_true.1 h2 i (List.mem_range.2 hi)
  rw [ho] at h3
  simp only [Option.bind_some, he, bne_self_eq_false, Bool.or_false, Bool.or_eq_true, beq_iff_eq] at h3
  rcases h3 with h3 | h3
  · exact hki h3
  · cases hok : ops[k]? with
    | none => simp [hok] at h3
    | some ok =>
      simp only [hok, Option.map_some, Option.getD_some, List.any_eq_true, Bool.and_eq_true, beq_iff_eq] at h3
      obtain ⟨e, he1, he2, he3⟩ := h3
      have := hcl k hl ok hok e (by simpa using he1) he2
      rw [he3, hn] at this
      cases this

theorem put_get (a : Act) (d s : Nat) (v : Value) (h : d < a.tmps.size) : (a.put (some d) v).tmps.getD s undef = if s = d then v else a.tmps.getD s undef := by
  simp only [Act.put, Array.getD_eq_getD_getElem?, Array.getElem?_setIfInBounds]
  by_cases e : d = s
  · subst e; simp [h]
  · rw [if_neg e, if_neg (Ne.symm e)]

/-- one operation that writes slot d -/
theorem FI.next {w0 : World} {n : Nat} {l : Array Bool} {a : Act} {w : World} (h : FI w0 n l a w) {ops : Array Oper} (hd : ffDeps ops = true) (hcl : Clsd .any ops l) {i : Nat} {o : Oper} (ho : ops[i]? = some o) (hi : i < 15) (hls : l.size = 15) (hnf : l.getD i false = false) (h5 : i ≠ 5)
    (d : Nat) (hod : o.dst = some d) (hd33 : d < 33) (hd0 : d ≠ 0) (v : Value) (w' : World) (hb : Below w.heap.size w w')
    (hf : FF w0.heap.size n w' (fun s => if s = d then v else a.tmps.getD s undef) (l.getD 5 false) i)
    (hap : (l.setIfInBounds i true).getD 8 false = true → (l.setIfInBounds i true).getD 10 false = true → (if 11 = d then v else a.tmps.getD 11 undef) ≠ (if 13 = d then v else a.tmps.getD 13 undef)) :
    FI w0 n (l.setIfInBounds i true) (a.put (some d) v) w' := by
  have hsz := h.size
  have hg := fun s => put_get a d s v (by omega)
  have e5 : (l.setIfInBounds i true).getD 5 false = l.getD 5 false := getD_set_ne false h5
  refine ⟨by simp [Act.put, hsz], h.defers, ?_, h.below.trans (hb.mono h.below.size), fun k hk => ?_, fun h8 h10 => ?_⟩
  · rw [hg, if_neg (Ne.symm hd0)]; exact h.arg
  · rw [e5]
    by_cases hki : i = k
    · subst hki
      have : (fun s => (a.put (some d) v).tmps.getD s undef) = fun s => if s = d then v else a.tmps.getD s undef := funext hg
      rw [this]; exact hf
    · rw [getD_set_ne false hki] at hk
      have hk15 : k < 15 := by
        by_cases hh : k < 15
        · exact hh
        · simp [Array.getElem?_eq_none (show l.size ≤ k by omega)] at hk
      refine (h.facts k hk).keep (fun e => ⟨e, trivial⟩) (fun s hs => ?_) ⟨(Kp.below hb).1, (Kp.below hb).2.1, fun _ => (Kp.below hb).2.2 trivial⟩
      have := ff_free hd hcl hi hk15 hk hnf ho hs
      rw [hg, if_neg (fun e => this (by rw [e]; exact hod))]
  · rw [hg, hg]; exact hap h8 h10

theorem FI.apart_keep {w0 : World} {n : Nat} {l : Array Bool} {a : Act} {w : World} (h : FI w0 n l a w) (i d : Nat) (v : Value) (h8 : i ≠ 8) (h10 : i ≠ 10) (d11 : 11 ≠ d) (d13 : 13 ≠ d) :
    (l.setIfInBounds i true).getD 8 false = true → (l.setIfInBounds i true).getD 10 false = true → (if 11 = d then v else a.tmps.getD 11 undef) ≠ (if 13 = d then v else a.tmps.getD 13 undef) := by
  rw [getD_set_ne false h8, getD_set_ne false h10, if_neg d11, if_neg d13]; exact h.apart

/-- the entry -/
theorem FI.ins {w0 : World} {n : Nat} {l : Array Bool} {a : Act} {w : World} (h : FI w0 n l a w) {ops : Array Oper} (hls : l.size = 15) (hnf : l.getD 5 false = false) (w' : World) (m p : Nat)
    (hm : a.tmps.getD 6 undef = .map (some m)) (hp : a.tmps.getD 8 undef = .pointer (some ⟨p, 0, none⟩)) (hB : w0.heap.size ≤ m) (hN : NMap w' m p) (hu : Upd m (m + 1) w w') (he : w.heap[m]? = some (.map #[] 0)) :
    FI w0 n (l.setIfInBounds 5 true) a w' := by
  have hml : m < w.heap.size := (Array.getElem?_eq_some_iff.1 he).1
  have e5 : (l.setIfInBounds 5 true).getD 5 false = true := by simp [hls]
  have kp : Kp w w' False := by
    refine ⟨fun g cs t fr hg => ?_, fun g es c hg => ?_, fun hf => hf.elim⟩
    · have hne : g ≠ m := fun e => by subst e; rw [he] at hg; cases hg
      exact (hu.block g (Array.getElem?_eq_some_iff.1 hg).1 (by omega)).trans hg
    · by_cases e : g = m
      · subst e; obtain ⟨es, c, h1, _⟩ := hN; exact ⟨es, c, h1⟩
      · exact ⟨es, c, (hu.block g (Array.getElem?_eq_some_iff.1 hg).1 (by omega)).trans hg⟩
  refine ⟨h.size, h.defers, h.arg, h.below.trans (hu.below hB h.below.size), fun k hk => ?_, fun h8 h10 => ?_⟩
  · rw [e5]
    by_cases hki : 5 = k
    · subst hki; exact ⟨m, p, hm, hp, hN⟩
    · rw [getD_set_ne false hki] at hk
      exact (h.facts k hk).keep (fun e => by cases e) (fun s _ => rfl) ⟨kp.1, kp.2.1, fun e => by rcases e with e | e; exact absurd e.symm hki; cases e⟩
  · rw [getD_set_ne false (show (5 : Nat) ≠ 8 by omega)] at h8
    rw [getD_set_ne false (show (5 : Nat) ≠ 10 by omega)] at h10
    exact h.apart h8 h10

/-- the map's one entry is put -/
theorem map_ins {w : World} {m p : Nat} (he : w.heap[m]? = some (.map #[] 0)) :
    ∃ w', (Instr.mapUpdate 69 (.map (some m)) (.int .i64 2) (.pointer (some ⟨p, 0, none⟩))).run Tryz.prog w = .ok () w' ∧ NMap w' m p ∧ Upd m (m + 1) w w' := by
  have hf : Instr.findNow (.int .i64) (.int .i64 2) ([] : List MapEntry) 0 = some none := rfl
  have hc : (Instr.checkKey false 10000 2 (.int .i64 2)).run Tryz.prog w = .ok () w := MapKept.run_checkKey (k := .int .i64 2) Tryz.underlying2 (by simp [MapKept.IsKey]) false 9999
  have hu : Upd m (m + 1) w { w with heap := w.heap.setIfInBounds m (.map ((#[] : Array MapEntry).push { key := .int .i64 2, val := .pointer (some ⟨p, 0, none⟩), born := 0 }) (0 + 1)) } :=
    ⟨rfl, rfl, rfl, by simp, fun k _ hk => (MapKept.heap_set he).2 k (by omega)⟩
  refine ⟨_, ?_, ⟨_, 0 + 1, (MapKept.heap_set he).1, ?_, by simp⟩, hu⟩
  · simp [Instr.mapUpdate, run_underlying Tryz.underlying69, MapKept.run_getObj_map he, hc, MapKept.run_findKey Tryz.underlying2 hf, MapKept.run_setObj_map _ he, Result.andThen]
  · simp [Instr.findNow, Instr.sameNow]

end Go.Proofs.YtpjdhfbeofdplaaGreatDoor
