import Derived.Test.YtbadedhliplkeaaValid
import Derived.Deep.MidRow
namespace Go.Proofs.Ytbadedhliplkeaa
open Go.RowKit

/-- the cells of a zero block -/
def zero128 : Array Value := Array.replicate 128 (.int .u8 0)

theorem alloc128 (w : World) : (Instr.alloc 76 true (.tuple #[])).run Try.prog w = .ok (.pointer (some ⟨w.heap.size, 0, none⟩)) (w.alloc (.cells zero128 76)) := by kernel_rfl

theorem size128 : (Try.prog.info? 76).map (·.size) = some 128 := by kernel_rfl

/-- 128 bytes from offset o of block b on -/
def Rng8 (w : World) (b o : Nat) (ds : List Int) : Prop := ds.length = 128 ∧ ∀ i, i < 128 → w.cell? ⟨b, o + i, none⟩ = some (.int .u8 (ds.getD i 0))

theorem Rng8.range {w : World} {b o : Nat} {ds : List Int} (h : Rng8 w b o ds) : w.rangeAt b o (ds.map (Value.int .u8)) := fun j v hv => by
  have hj : j < ds.length := by
    by_cases hh : j < ds.length
    · exact hh
    · simp [show ds.length ≤ j by omega] at hv
  rw [h.2 j (by rw [← h.1]; exact hj)]
  simp only [List.getElem?_map, List.getElem?_eq_getElem hj, Option.map_some, Option.some.injEq] at hv
  rw [← hv]; simp [hj]

theorem Rng8.of_bts {w : World} {a : Option Addr} {b o cap n : Nat} {ds : List Int} (h : Bts w (.slice a n cap) ds) (ha : a = some ⟨b, o, none⟩) (hl : ds.length = 128) : Rng8 w b o ds := by
  obtain ⟨a', cap', hv, hc⟩ := h.shape
  simp only [Value.slice.injEq] at hv
  obtain ⟨rfl, rfl, rfl⟩ := hv
  obtain ⟨b', off', ha', hcell⟩ := hc (by omega)
  rw [ha] at ha'
  simp only [Option.some.injEq, Addr.mk.injEq, and_true] at ha'
  obtain ⟨rfl, rfl⟩ := ha'
  exact ⟨hl, fun i hi => hcell i (by omega)⟩

theorem wpList_alloc128 {ops : Array Oper} {rest : List Oper} {o : Oper} {a : Act} {w : World} {Q : Exit → Act → World → Prop} (hg : o.guard = none ∧ o.op = .alloc 76)
    (h : wpList Try.prog ops Q rest (a.put o.dst (.pointer (some ⟨w.heap.size, 0, none⟩))) (w.alloc (.cells zero128 76))) : wpList Try.prog ops Q (o :: rest) a w :=
  wpList_plain hg.1 fun K hK => by
    unfold Oper.wp execOp
    simp only [hg.2, alloc128, Sem.run_bind, Sem.run_pure, Result.andThen_ok]
    exact hK _ _ h

theorem wpList_load128 {ops : Array Oper} {rest : List Oper} {op : Oper} {a : Act} {w : World} {Q : Exit → Act → World → Prop} {b o : Nat} {ds : List Int} (hc : Rng8 w b o ds) (hg : op.guard = none ∧ ∃ x, op.op = .load 76 x ∧ a.eval x = .pointer (some ⟨b, o, none⟩))
    (h : wpList Try.prog ops Q rest (a.put op.dst (.agg (u8s ds))) w) : wpList Try.prog ops Q (op :: rest) a w := by
  obtain ⟨hgd, x, ho, hx⟩ := hg
  exact wpList_load_mid hgd 76 x ho b o hx (ds.map (Value.int .u8)) _ hc.range Try.underlying76 rfl (by rw [size128]; simp [hc.1]) h

theorem u8s_one (ds : List Int) : (u8s ds).all (·.oneCell') = true := all_oneCell_toArray (fun v hv => by
  simp only [List.mem_map] at hv
  obtain ⟨x, _, rfl⟩ := hv
  rfl)

theorem wpList_store128 {ops : Array Oper} {rest : List Oper} {op : Oper} {a : Act} {w : World} {Q : Exit → Act → World → Prop} {b o : Nat} (ht : w.there b o 128) {ds : List Int} (hl : ds.length = 128) (hg : op.guard = none ∧ ∃ x y, op.op = .store 76 x y ∧ a.eval x = .pointer (some ⟨b, o, none⟩) ∧ a.eval y = .agg (u8s ds))
    (h : wpList Try.prog ops Q rest (a.put op.dst undef) (w.setCells b o (ds.map (Value.int .u8)))) : wpList Try.prog ops Q (op :: rest) a w := by
  obtain ⟨hgd, x, y, ho, hx, hy⟩ := hg
  have hsz : (u8s ds).size = 128 := by simp [u8s, hl]
  refine wpList_store_mid hgd 76 x y ho b o (u8s ds) hx hy (by rw [hsz]; exact ht) (by rw [hsz]; exact size128) (u8s_one ds) ?_
  simpa [u8s] using h

theorem there_new (w : World) (g : Nat) (hg : g = w.heap.size) : (w.alloc (.cells zero128 76)).there g 0 128 := fun j hj => by
  subst hg
  rw [World.cell?_alloc_at _ _ _ _ rfl, World.frozen?_alloc_at _ _ _ _ rfl]
  simp [zero128, hj]

theorem setCells_new (w : World) (c : Array Value) (t : TypeId) (vs : List Value) (o : Nat) (h : o + vs.length ≤ c.size) : (w.alloc (.cells c t)).setCells w.heap.size o vs = w.alloc (.cells (c.toList.take o ++ vs ++ c.toList.drop (o + vs.length)).toArray t) := by
  induction vs generalizing o c with
  | nil => simp [World.setCells]
  | cons v r ih =>
    simp only [List.length_cons] at h
    show ((w.alloc (.cells c t)).setCell ⟨w.heap.size, o, none⟩ v).setCells w.heap.size (o + 1) r = _
    rw [World.setCell_alloc_at _ _ _ _ _ rfl, ih _ _ (by simp; omega)]
    congr 2
    apply congrArg List.toArray
    simp only [Array.toList_setIfInBounds]
    apply List.ext_getElem?
    intro j
    simp only [List.append_assoc, List.getElem?_append, List.length_take, List.length_set, Array.length_toList, List.length_cons, List.getElem?_take, List.getElem?_drop, List.getElem?_set, List.getElem?_cons]
    rw [show min (o + 1) c.size = o + 1 by omega, show min o c.size = o by omega]
    by_cases h1 : j < o
    · rw [if_pos (show j < o + 1 by omega), if_pos (show j < o + 1 by omega), if_neg (show ¬ o = j by omega), if_pos h1, if_pos h1]
    · by_cases h2 : j = o
      · subst h2
        rw [if_pos (show j < j + 1 by omega), if_pos (show j < j + 1 by omega), if_pos rfl, if_pos (show j < c.size by omega), if_neg (show ¬ j < j by omega), if_pos (show j - j < r.length + 1 by omega), if_pos (show j - j = 0 by omega)]
      · rw [if_neg (show ¬ j < o + 1 by omega), if_neg h1]
        by_cases h3 : j - (o + 1) < r.length
        · rw [if_pos h3, if_pos (show j - o < r.length + 1 by omega), if_neg (show ¬ j - o = 0 by omega), show j - o - 1 = j - (o + 1) by omega]
        · rw [if_neg h3, if_neg (show ¬ j - o < r.length + 1 by omega), if_neg (show ¬ o = o + 1 + r.length + (j - (o + 1) - r.length) by omega), show o + 1 + r.length + (j - (o + 1) - r.length) = o + (r.length + 1) + (j - o - (r.length + 1)) by omega]

theorem stored_new (w : World) (ds : List Int) (hl : ds.length = 128) (g : Nat) (hg : g = w.heap.size) : (w.alloc (.cells zero128 76)).setCells g 0 (ds.map (Value.int .u8)) = w.alloc (.cells (u8s ds) 76) := by
  subst hg
  rw [setCells_new _ _ _ _ _ (by simp [zero128, hl])]
  congr 2
  simp [zero128, hl, u8s]

/-- block q of a disk -/
def blk (zs : List Int) (q : Nat) : List Int := (zs.drop (q * 128)).take 128

theorem blk_length (zs : List Int) (q : Nat) (h : (q + 1) * 128 ≤ zs.length) : (blk zs q).length = 128 := by
  simp [blk]; omega

theorem blk_get (zs : List Int) (q i : Nat) (h : i < 128) : (blk zs q).getD i 0 = zs.getD (q * 128 + i) 0 := by
  simp [blk, h]

theorem results_cell1 {fn : Func} {p : Tmp} {ty : TypeId} (h : fn.results = #[.cell p ty]) (tmps : Array Value) (P : Program) (w : World) :
    (results fn tmps).run P w = ((asAddr (tmps.getD p undef)).run P w).andThen fun a w1 => (loadVar ty a).run P w1 := by
  simp only [results, h]
  simp [Sem.run_bind, Result.andThen]

theorem arrayAt_any (a : Option Addr) (n c : Nat) (w : World) (h : 128 ≤ n) : (Instr.arrayAt 76 (.slice a n c)).run Try.prog w = .ok (.pointer a) w := by
  simp only [Instr.arrayAt, Sem.run_bind, run_underlying Try.underlying76, Result.andThen_ok]
  rw [if_neg (by omega)]
  rfl

theorem rng_new (w : World) (ds : List Int) (hl : ds.length = 128) (t : TypeId) (g : Nat) (hg : g = w.heap.size) : Rng8 (w.alloc (.cells (u8s ds) t)) g 0 ds := ⟨hl, fun i hi => by
  subst hg
  rw [Nat.zero_add, World.cell?_alloc_at _ _ _ _ rfl]
  simp [u8s, hl, hi]⟩

theorem load_rng {w : World} {b o : Nat} {ds : List Int} (h : Rng8 w b o ds) : (loadVar 76 ⟨b, o, none⟩).run Try.prog w = .ok (.agg (u8s ds)) w :=
  run_loadVar_mid w b o 76 (ds.map (Value.int .u8)) _ h.range Try.underlying76 rfl (by rw [size128]; simp [h.1])

theorem result_rng {fn : Func} {p : Tmp} (h : fn.results = #[.cell p 76]) {tmps : Array Value} {w : World} {b o : Nat} {ds : List Int} (hp : tmps.getD p undef = .pointer (some ⟨b, o, none⟩)) (hr : Rng8 w b o ds) :
    (results fn tmps).run Try.prog w = .ok (.agg (u8s ds)) w := by
  rw [results_cell1 h, hp]
  simp only [asAddr, Sem.run_pure, Result.andThen_ok]
  exact load_rng hr

set_option maxHeartbeats 400000 in
theorem blockAt_any (b off n cap q : Nat) (zs : List Int) (w : World) (hn : zs.length = n) (hq : (q + 1) * 128 ≤ n) (hcap : n ≤ cap) (hm : n ≤ 1048576) (hc : ∀ i, i < n → w.cell? ⟨b, off + i, none⟩ = some (.int .u8 (zs.getD i 0))) :
    Calls Try.prog 50 #[.slice (some ⟨b, off, none⟩) n cap, .int .i64 q] w fun e w' => e = .returned (.agg (u8s (blk zs q))) ∧ w' = w.alloc (.cells (u8s (blk zs q)) 76) := by
  have h1 : (q : Int) * 128 + 128 ≤ n := by omega
  have h2 : (q : Int) * 128 + 128 ≤ cap := by omega
  have hbl := blk_length zs q (by omega)
  have hR : Rng8 (w.alloc (.cells zero128 76)) b (off + q * 128) (blk zs q) := ⟨hbl, fun i hi => by
    have e := hc (q * 128 + i) (by omega)
    rw [World.cell?_alloc_past _ _ _ (World.block_lt_of_cell? _ _ (hc (q * 128 + i) (by omega))), Nat.add_assoc, e, blk_get _ _ _ hi]⟩
  have hT := there_new w w.heap.size rfl
  have hS := stored_new w (blk zs q) hbl w.heap.size rfl
  have harr := fun a c w => arrayAt_any a 128 c w (Nat.le_refl _)
  clear hc
  go_enter Try.func50, Try.ntmps50
  go_step
  go_step
  go_step
  refine wpList_alloc128 ⟨rfl, rfl⟩ ?_
  go_wp2_with (first | ((with_reducible refine wpList_load128 hR ?_ ?_); exact ⟨rfl, _, rfl, rfl⟩) | ((with_reducible refine wpList_store128 hT hbl ?_ ?_); exact ⟨rfl, _, _, rfl, rfl, rfl⟩))
  rw [hS]
  exact bodyPost_ret (result_rng Try.results50 rfl (rng_new w (blk zs q) hbl _ _ rfl)) rfl ⟨rfl, rfl⟩
end Go.Proofs.Ytbadedhliplkeaa
