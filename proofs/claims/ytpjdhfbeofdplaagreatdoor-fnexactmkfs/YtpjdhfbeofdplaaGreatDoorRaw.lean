import Derived.Test.YtpjdhfbeofdplaaGreatDoorBytes
import Derived.Deep.MidRow
namespace Go.Proofs.YtpjdhfbeofdplaaGreatDoor
open Go.RowKit

/-- the cells of a zero block -/
def zero128 : Array Value := Array.replicate 128 (.int .u8 0)

theorem alloc128 (w : World) : (Instr.alloc 121 true (.tuple #[])).run Tryz.prog w = .ok (.pointer (some ⟨w.heap.size, 0, none⟩)) (w.alloc (.cells zero128 121)) := by kernel_rfl

theorem size128 : (Tryz.prog.info? 121).map (·.size) = some 128 := by kernel_rfl

/-- 128 bytes from offset o of block b on -/
def Rng8 (w : World) (b o : Nat) (ds : List Int) : Prop := ds.length = 128 ∧ ∀ i, i < 128 → w.cell? ⟨b, o + i, none⟩ = some (.int .u8 (ds.getD i 0))

theorem Rng8.range {w : World} {b o : Nat} {ds : List Int} (h : Rng8 w b o ds) : w.rangeAt b o (ds.map (Value.int .u8)) := fun j v hv => by
  have hj : j < ds.length := by
    by_cases hh : j < ds.length
    · exact hh
    · simp [show ds.length ≤ j by omega] at hv
  rw [h.2 j (by rw [← h.1]; exact hj)]
  simp only [List.getElem?_map, List.getElem?_eq_getElem hj, Option.map_some, Option.some.injEq] at hv
  rw [← hv]; simp [hj]

theorem Rng8.of_bts {w : World} {a : Option Addr} {b o cap n : Nat} {ds : List Int} (h : Bts w (.slice a n cap) ds) (ha : a = some ⟨b, o, none⟩) (hl : ds.length = 128) : Rng8 w b o ds := by
  obtain ⟨a', cap', hv, hc⟩ := h.shape
  simp only [Value.slice.injEq] at hv
  obtain ⟨rfl, rfl, rfl⟩ := hv
  obtain ⟨b', off', ha', hcell⟩ := hc (by omega)
  rw [ha] at ha'
  simp only [Option.some.injEq, Addr.mk.injEq, and_true] at ha'
  obtain ⟨rfl, rfl⟩ := ha'
  exact ⟨hl, fun i hi => hcell i (by omega)⟩

theorem wpList_alloc128 {ops : Array Oper} {rest : List Oper} {o : Oper} {a : Act} {w : World} {Q : Exit → Act → World → Prop} (hg : o.guard = none ∧ o.op = .alloc 121)
    (h : wpList Tryz.prog ops Q rest (a.put o.dst (.pointer (some ⟨w.heap.size, 0, none⟩))) (w.alloc (.cells zero128 121))) : wpList Tryz.prog ops Q (o :: rest) a w :=
  wpList_plain hg.1 fun K hK => by
    unfold Oper.wp execOp
    simp only [hg.2, alloc128, Sem.run_bind, Sem.run_pure, Result.andThen_ok]
    exact hK _ _ h

theorem wpList_load128 {ops : Array Oper} {rest : List Oper} {op : Oper} {a : Act} {w : World} {Q : Exit → Act → World → Prop} {b o : Nat} {ds : List Int} (hc : Rng8 w b o ds) (hg : op.guard = none ∧ ∃ x, op.op = .load 121 x ∧ a.eval x = .pointer (some ⟨b, o, none⟩))
    (h : wpList Tryz.prog ops Q rest (a.put op.dst (.agg (u8s ds))) w) : wpList Tryz.prog ops Q (op :: rest) a w := by
  obtain ⟨hgd, x, ho, hx⟩ := hg
  exact wpList_load_mid hgd 121 x ho b o hx (ds.map (Value.int .u8)) _ hc.range Tryz.underlying121 rfl (by rw [size128]; simp [hc.1]) h

theorem u8s_one (ds : List Int) : (u8s ds).all (·.oneCell') = true := all_oneCell_toArray (fun v hv => by
  simp only [List.mem_map] at hv
  obtain ⟨x, _, rfl⟩ := hv
  rfl)

theorem wpList_store128 {ops : Array Oper} {rest : List Oper} {op : Oper} {a : Act} {w : World} {Q : Exit → Act → World → Prop} {b o : Nat} (ht : w.there b o 128) {ds : List Int} (hl : ds.length = 128) (hg : op.guard = none ∧ ∃ x y, op.op = .store 121 x y ∧ a.eval x = .pointer (some ⟨b, o, none⟩) ∧ a.eval y = .agg (u8s ds))
    (h : wpList Tryz.prog ops Q rest (a.put op.dst undef) (w.setCells b o (ds.map (Value.int .u8)))) : wpList Tryz.prog ops Q (op :: rest) a w := by
  obtain ⟨hgd, x, y, ho, hx, hy⟩ := hg
  have hsz : (u8s ds).size = 128 := by simp [u8s, hl]
  refine wpList_store_mid hgd 121 x y ho b o (u8s ds) hx hy (by rw [hsz]; exact ht) (by rw [hsz]; exact size128) (u8s_one ds) ?_
  simpa [u8s] using h

theorem there_new (w : World) (g : Nat) (hg : g = w.heap.size) : (w.alloc (.cells zero128 121)).there g 0 128 := fun j hj => by
  subst hg
  rw [World.cell?_alloc_at _ _ _ _ rfl, World.frozen?_alloc_at _ _ _ _ rfl]
  simp [zero128, hj]

theorem setCells_new (w : World) (c : Array Value) (t : TypeId) (vs : List Value) (o : Nat) (h : o + vs.length ≤ c.size) : (w.alloc (.cells c t)).setCells w.heap.size o vs = w.alloc (.cells (c.toList.take o ++ vs ++ c.toList.drop (o + vs.length)).toArray t) := by
  induction vs generalizing o c with
  | nil => simp [World.setCells]
  | cons v r ih =>
    simp only [List.length_cons] at h
    show ((w.alloc (.cells c t)).setCell ⟨w.heap.size, o, none⟩ v).setCells w.heap.size (o + 1) r = _
    rw [World.setCell_alloc_at _ _ _ _ _ rfl, ih _ _ (by simp; omega)]
    congr 2
    apply congrArg List.toArray
    simp only [Array.toList_setIfInBounds]
    apply List.ext_getElem?
    intro j
    simp only [List.append_assoc, List.getElem?_append, List.length_take, List.length_set, Array.length_toList, List.length_cons, List.getElem?_take, List.getElem?_drop, List.getElem?_set, List.getElem?_cons]
    rw [show min (o + 1) c.size = o + 1 by omega, show min o c.size = o by omega]
    by_cases h1 : j < o
    · rw [if_pos (show j < o + 1 by omega), if_pos (show j < o + 1 by omega), if_neg (show ¬ o = j by omega), if_pos h1, if_pos h1]
    · by_cases h2 : j = o
      · subst h2
        rw [if_pos (show j < j + 1 by omega), if_pos (show j < j + 1 by omega), if_pos rfl, if_pos (show j < c.size by omega), if_neg (show ¬ j < j by omega), if_pos (show j - j < r.length + 1 by omega), if_pos (show j - j = 0 by omega)]
      · rw [if_neg (show ¬ j < o + 1 by omega), if_neg h1]
        by_cases h3 : j - (o + 1) < r.length
        · rw [if_pos h3, if_pos (show j - o < r.length + 1 by omega), if_neg (show ¬ j - o = 0 by omega), show j - o - 1 = j - (o + 1) by omega]
        · rw [if_neg h3, if_neg (show ¬ j - o < r.length + 1 by omega), if_neg (show ¬ o = o + 1 + r.length + (j - (o + 1) - r.length) by omega), show o + 1 + r.length + (j - (o + 1) - r.length) = o + (r.length + 1) + (j - o - (r.length + 1)) by omega]

theorem stored_new (w : World) (ds : List Int) (hl : ds.length = 128) (g : Nat) (hg : g = w.heap.size) : (w.alloc (.cells zero128 121)).setCells g 0 (ds.map (Value.int .u8)) = w.alloc (.cells (u8s ds) 121) := by
  subst hg
  rw [setCells_new _ _ _ _ _ (by simp [zero128, hl])]
  congr 2
  simp [zero128, hl, u8s]

theorem results_cell1 {fn : Func} {p : Tmp} {ty : TypeId} (h : fn.results = #[.cell p ty]) (tmps : Array Value) (P : Program) (w : World) :
    (results fn tmps).run P w = ((asAddr (tmps.getD p undef)).run P w).andThen fun a w1 => (loadVar ty a).run P w1 := by
  simp only [results, h]
  simp [Sem.run_bind, Result.andThen]

theorem arrayAt_any (a : Option Addr) (n c : Nat) (w : World) (h : 128 ≤ n) : (Instr.arrayAt 121 (.slice a n c)).run Tryz.prog w = .ok (.pointer a) w := by
  simp only [Instr.arrayAt, Sem.run_bind, run_underlying Tryz.underlying121, Result.andThen_ok]
  rw [if_neg (by omega)]
  rfl

theorem rng_new (w : World) (ds : List Int) (hl : ds.length = 128) (t : TypeId) (g : Nat) (hg : g = w.heap.size) : Rng8 (w.alloc (.cells (u8s ds) t)) g 0 ds := ⟨hl, fun i hi => by
  subst hg
  rw [Nat.zero_add, World.cell?_alloc_at _ _ _ _ rfl]
  simp [u8s, hl, hi]⟩

theorem load_rng {w : World} {b o : Nat} {ds : List Int} (h : Rng8 w b o ds) : (loadVar 121 ⟨b, o, none⟩).run Tryz.prog w = .ok (.agg (u8s ds)) w :=
  run_loadVar_mid w b o 121 (ds.map (Value.int .u8)) _ h.range Tryz.underlying121 rfl (by rw [size128]; simp [h.1])

theorem result_rng {fn : Func} {p : Tmp} (h : fn.results = #[.cell p 121]) {tmps : Array Value} {w : World} {b o : Nat} {ds : List Int} (hp : tmps.getD p undef = .pointer (some ⟨b, o, none⟩)) (hr : Rng8 w b o ds) :
    (results fn tmps).run Tryz.prog w = .ok (.agg (u8s ds)) w := by
  rw [results_cell1 h, hp]
  simp only [asAddr, Sem.run_pure, Result.andThen_ok]
  exact load_rng hr

theorem Below.setCells {B : Nat} {a w : World} (h : Below B a w) {b : Nat} (hb : B ≤ b) (vs : List Value) (o : Nat) : Below B a (w.setCells b o vs) := by
  induction vs generalizing w o with
  | nil => exact h
  | cons v r ih => exact ih (h.setCell (p := ⟨b, o, none⟩) hb v) (o + 1)

theorem heap_setCells (w : World) (b : Nat) (vs : List Value) (o k : Nat) (hk : k ≠ b) : (w.setCells b o vs).heap[k]? = w.heap[k]? := by
  induction vs generalizing w o with
  | nil => rfl
  | cons v r ih => exact (ih (w.setCell ⟨b, o, none⟩ v) (o + 1)).trans (Below.heap_setCell w ⟨b, o, none⟩ v k hk)

theorem size_setCells (w : World) (b : Nat) (vs : List Value) (o : Nat) : (w.setCells b o vs).heap.size = w.heap.size := by
  induction vs generalizing w o with
  | nil => rfl
  | cons v r ih => exact (ih (w.setCell ⟨b, o, none⟩ v) (o + 1)).trans (World.size_setCell _ _ _)

theorem Rng8.stored {w : World} {b : Nat} {ds : List Int} (ht : w.there b 0 128) (hl : ds.length = 128) : Rng8 (w.setCells b 0 (ds.map (Value.int .u8))) b 0 ds := ⟨hl, fun i hi => by
  have h := World.rangeAt_setCells_same w b 0 (ds.map (Value.int .u8)) (by simpa [hl] using ht) i (.int .u8 (ds.getD i 0)) (by simp [hl, hi])
  exact h⟩

theorem Rng8.block {w w' : World} {b o : Nat} {ds : List Int} (h : Rng8 w b o ds) (hb : w'.heap[b]? = w.heap[b]?) : Rng8 w' b o ds :=
  ⟨h.1, fun i hi => (World.cell?_of_block (w := w) (w' := w') (a := ⟨b, o + i, none⟩) hb).trans (h.2 i hi)⟩

theorem there_block {w w' : World} {b o n : Nat} (h : w.there b o n) (hb : w'.heap[b]? = w.heap[b]?) : w'.there b o n := fun j hj => by
  rw [World.cell?_of_block (w := w) (w' := w') (a := ⟨b, o + j, none⟩) hb, World.frozen?_of_block (w := w) (w' := w') (a := ⟨b, o + j, none⟩) hb]
  exact h j hj

theorem Rng8.own {w : World} {b : Nat} {ds : List Int} (h : Rng8 w b 0 ds) (ht : w.there b 0 128) (hs : ∀ i, 0 ≤ ds.getD i 0 ∧ ds.getD i 0 < 256) (n cap : Nat) (hn : n = 128) : Own8 b (b + 1) w (.slice (some ⟨b, 0, none⟩) n cap) ds := by
  subst hn
  refine ⟨hs, _, cap, by rw [h.1], fun _ => ⟨b, 0, rfl, Nat.le_refl _, Nat.lt_succ_self _, World.block_lt_of_cell? _ _ (h.2 0 (by omega)), fun i hi => ?_⟩⟩
  rw [h.1] at hi
  exact ⟨h.2 i hi, (ht i hi).2⟩

/-- a new block and what is stored into it at once -/
theorem wpList_store_new {ops : Array Oper} {rest : List Oper} {op : Oper} {a : Act} {w : World} {Q : Exit → Act → World → Prop} {ds : List Int} (hl : ds.length = 128) (hg : op.guard = none ∧ ∃ x y g, op.op = .store 121 x y ∧ a.eval x = .pointer (some ⟨g, 0, none⟩) ∧ a.eval y = .agg (u8s ds) ∧ g = w.heap.size)
    (h : wpList Tryz.prog ops Q rest (a.put op.dst undef) (w.alloc (.cells (u8s ds) 121))) : wpList Tryz.prog ops Q (op :: rest) a (w.alloc (.cells zero128 121)) := by
  obtain ⟨h1, x, y, g, h2, h3, h4, h5⟩ := hg
  exact wpList_store128 (there_new w g h5) hl ⟨h1, x, y, h2, h3, h4⟩ (by rw [stored_new w ds hl g h5]; exact h)

end Go.Proofs.YtpjdhfbeofdplaaGreatDoor
