import Derived.Test.YtbadedhliplkeaaRd
namespace Go.Proofs.Ytbadedhliplkeaa
open Go.RowKit

theorem Below.setCells {B : Nat} {a w : World} (h : Below B a w) {b : Nat} (hb : B ≤ b) (vs : List Value) (o : Nat) : Below B a (w.setCells b o vs) := by
  induction vs generalizing w o with
  | nil => exact h
  | cons v r ih => exact ih (h.setCell (p := ⟨b, o, none⟩) hb v) (o + 1)

theorem heap_setCells (w : World) (b : Nat) (vs : List Value) (o k : Nat) (hk : k ≠ b) : (w.setCells b o vs).heap[k]? = w.heap[k]? := by
  induction vs generalizing w o with
  | nil => rfl
  | cons v r ih => exact (ih (w.setCell ⟨b, o, none⟩ v) (o + 1)).trans (Below.heap_setCell w ⟨b, o, none⟩ v k hk)

theorem size_setCells (w : World) (b : Nat) (vs : List Value) (o : Nat) : (w.setCells b o vs).heap.size = w.heap.size := by
  induction vs generalizing w o with
  | nil => rfl
  | cons v r ih => exact (ih (w.setCell ⟨b, o, none⟩ v) (o + 1)).trans (World.size_setCell _ _ _)

theorem Rng8.stored {w : World} {b : Nat} {ds : List Int} (ht : w.there b 0 128) (hl : ds.length = 128) : Rng8 (w.setCells b 0 (ds.map (Value.int .u8))) b 0 ds := ⟨hl, fun i hi => by
  have h := World.rangeAt_setCells_same w b 0 (ds.map (Value.int .u8)) (by simpa [hl] using ht) i (.int .u8 (ds.getD i 0)) (by simp [hl, hi])
  exact h⟩

theorem Rng8.block {w w' : World} {b o : Nat} {ds : List Int} (h : Rng8 w b o ds) (hb : w'.heap[b]? = w.heap[b]?) : Rng8 w' b o ds :=
  ⟨h.1, fun i hi => (World.cell?_of_block (w := w) (w' := w') (a := ⟨b, o + i, none⟩) hb).trans (h.2 i hi)⟩

theorem there_block {w w' : World} {b o n : Nat} (h : w.there b o n) (hb : w'.heap[b]? = w.heap[b]?) : w'.there b o n := fun j hj => by
  rw [World.cell?_of_block (w := w) (w' := w') (a := ⟨b, o + j, none⟩) hb, World.frozen?_of_block (w := w) (w' := w') (a := ⟨b, o + j, none⟩) hb]
  exact h j hj

theorem Rng8.own {w : World} {b : Nat} {ds : List Int} (h : Rng8 w b 0 ds) (ht : w.there b 0 128) (hs : ∀ i, 0 ≤ ds.getD i 0 ∧ ds.getD i 0 < 256) (n cap : Nat) (hn : n = 128) : Own8 b (b + 1) w (.slice (some ⟨b, 0, none⟩) n cap) ds := by
  subst hn
  refine ⟨hs, _, cap, by rw [h.1], fun _ => ⟨b, 0, rfl, Nat.le_refl _, Nat.lt_succ_self _, World.block_lt_of_cell? _ _ (h.2 0 (by omega)), fun i hi => ?_⟩⟩
  rw [h.1] at hi
  exact ⟨h.2 i hi, (ht i hi).2⟩

/-- a new block and what is stored into it at once -/
theorem wpList_store_new {ops : Array Oper} {rest : List Oper} {op : Oper} {a : Act} {w : World} {Q : Exit → Act → World → Prop} {ds : List Int} (hl : ds.length = 128) (hg : op.guard = none ∧ ∃ x y g, op.op = .store 76 x y ∧ a.eval x = .pointer (some ⟨g, 0, none⟩) ∧ a.eval y = .agg (u8s ds) ∧ g = w.heap.size)
    (h : wpList Try.prog ops Q rest (a.put op.dst undef) (w.alloc (.cells (u8s ds) 76))) : wpList Try.prog ops Q (op :: rest) a (w.alloc (.cells zero128 76)) := by
  obtain ⟨h1, x, y, g, h2, h3, h4, h5⟩ := hg
  exact wpList_store128 (there_new w g h5) hl ⟨h1, x, y, h2, h3, h4⟩ (by rw [stored_new w ds hl g h5]; exact h)

/-- what a reader of block q sees behind the first elements of the cache -/
def seenIn (zs : List Int) (q : Int) (ps : List (Int × List Int)) : List Int := ps.foldl (fun s p => if p.1 = q then p.2 else s) (blk zs q.toNat)

theorem seenIn_take (zs : List Int) (q : Int) (ps : List (Int × List Int)) (k : Nat) (h : k < ps.length) : seenIn zs q (ps.take (k + 1)) = if (ps.getD k (0, [])).1 = q then (ps.getD k (0, [])).2 else seenIn zs q (ps.take k) := by
  unfold seenIn
  rw [List.take_succ_eq_append_getElem h, List.foldl_append]
  simp [h]

theorem blk_small (zs : List Int) (q : Nat) (h : ∀ i, 0 ≤ zs.getD i 0 ∧ zs.getD i 0 < 256) (i : Nat) : 0 ≤ (blk zs q).getD i 0 ∧ (blk zs q).getD i 0 < 256 := by
  by_cases hi : i < 128
  · rw [blk_get _ _ _ hi]; exact h _
  · have : (blk zs q).length ≤ i := by simp [blk]; omega
    simp [this]

theorem seenIn_ind (P : List Int → Prop) (zs : List Int) (q : Int) (ps : List (Int × List Int)) (h0 : P (blk zs q.toNat)) (h1 : ∀ i, i < ps.length → P (ps.getD i (0, [])).2) : P (seenIn zs q ps) := by
  have key : ∀ k, k ≤ ps.length → P (seenIn zs q (ps.take k)) := by
    intro k
    induction k with
    | zero => intro _; simpa [seenIn] using h0
    | succ k ih =>
      intro hk
      rw [seenIn_take zs q ps k (by omega)]
      split
      · exact h1 k (by omega)
      · exact ih (by omega)
  have := key ps.length (Nat.le_refl _)
  rwa [List.take_length] at this

/-- the block that is being read lies at g -/
structure Seen (w wr : World) (g : Nat) (ds : List Int) : Prop where
  rng : Rng8 wr g 0 ds
  there : wr.there g 0 128
  below : Below w.heap.size w wr
  base : w.heap.size ≤ g

theorem Seen.lt {w wr : World} {g : Nat} {ds : List Int} (h : Seen w wr g ds) : g < wr.heap.size := World.block_lt_of_cell? _ _ (h.rng.2 0 (by omega))

theorem Seen.alloc {w wr : World} {g : Nat} {ds : List Int} (h : Seen w wr g ds) (o : Obj) : Seen w (wr.alloc o) g ds :=
  have hb := belowA wr o
  ⟨h.rng.block (hb.block g h.lt), there_block h.there (hb.block g h.lt), h.below.trans (hb.mono h.below.size), h.base⟩

theorem Seen.stored {w wr : World} {g : Nat} {ds es : List Int} (h : Seen w wr g ds) (hl : es.length = 128) : Seen w (wr.setCells g 0 (es.map (Value.int .u8))) g es :=
  ⟨Rng8.stored h.there hl, World.there_setCells h.there g 0 _, Below.setCells h.below h.base _ _, h.base⟩

theorem Seen.start {w w2 : World} (hb : Below w.heap.size w w2) (ds : List Int) (hl : ds.length = 128) (o : Obj) : Seen w ((w2.alloc o).alloc (.cells (u8s ds) 76)) (w2.heap.size + 1) ds := by
  have e : (w2.alloc o).heap.size = w2.heap.size + 1 := by simp
  refine ⟨rng_new _ ds hl _ _ e.symm, ?_, (hb.trans ((belowA w2 o).mono hb.size)).trans ((belowA _ _).mono (by have := hb.size; omega)), by have := hb.size; omega⟩
  intro j hj
  rw [Nat.zero_add, World.cell?_alloc_at _ _ _ _ e.symm, World.frozen?_alloc_at _ _ _ _ e.symm]
  simp [u8s, hl, hj]

set_option maxHeartbeats 2000000 in
theorem devRead_yes (B q : Int) (da ca : Option Addr) (dc cc : Nat) (zs : List Int) (ps : List (Int × List Int)) (w : World) (h : DRead w (.agg #[.int .i64 B, .slice da zs.length dc, .slice ca ps.length cc]) B zs ps) (hcap : zs.length ≤ dc) (hok : dOK B zs ps = true) (hq : 0 ≤ q ∧ q ≤ B - 1) :
    Calls Try.prog 23 #[.agg #[.int .i64 B, .slice da zs.length dc, .slice ca ps.length cc], .int .i64 q] w fun e w' => ∃ g, e = .returned (.tuple #[.slice (some ⟨g, 0, none⟩) 128 128, .int .i64 0]) ∧ w.heap.size ≤ g ∧ g < w'.heap.size ∧ Own8 g (g + 1) w' (.slice (some ⟨g, 0, none⟩) 128 128) (seenIn zs q ps) ∧ Below w.heap.size w w' := by
  obtain ⟨hB1, hB2, hzl, hpl, hel⟩ := dOK_out hok
  have hiq := inB_true hq
  have hR := h
  obtain ⟨_, _, _, _, he, k1, k2⟩ := h
  simp only [Value.agg.injEq, Array.mk.injEq, List.cons.injEq, Value.slice.injEq, true_and, and_true] at he
  obtain ⟨⟨rfl, rfl⟩, rfl, rfl⟩ := he
  obtain ⟨n, rfl⟩ := Int.eq_ofNat_of_zero_le hq.1
  have hzl' : zs.length ≤ 1048576 := by omega
  have hel' : ∀ i, (ps.getD i (0, [])).2.length ≤ 1048576 := fun i => by
    by_cases hi : i < ps.length
    · have := of_decide_eq_true (hel i hi); omega
    · simp [hi]
  have hb0 := belowA w (.cells #[.int .i64 B, .slice da zs.length dc, .slice ca ps.length cc] 25)
  have hBx := Box3.made w (.int .i64 B) (.slice da zs.length dc) (.slice ca ps.length cc) 25 _ rfl
  have harr := fun a c w => arrayAt_any a 128 c w (Nat.le_refl _)
  have hk1 := k1.shape
  obtain ⟨_, _, he, hcell⟩ := hk1
  simp only [Value.slice.injEq, true_and] at he
  obtain ⟨rfl, rfl⟩ := he
  obtain ⟨db, doff, rfl, hdc⟩ := hcell (by omega)
  have hsm : ∀ i, 0 ≤ (seenIn zs n ps).getD i 0 ∧ (seenIn zs n ps).getD i 0 < 256 := seenIn_ind (fun l => ∀ i, 0 ≤ l.getD i 0 ∧ l.getD i 0 < 256) zs n ps (blk_small zs _ k1.small) (fun i hi => by
    obtain ⟨_, _, _, hx⟩ := k2
    obtain ⟨_, _, _, hx⟩ := hx (by omega)
    obtain ⟨_, _, _, _, hx⟩ := hx i hi
    exact hx.small)
  have hbl := blk_length zs n (by omega)
  have HZL : Hid ((zs.length : Int) = B * 128) := hzl
  have hnz : ((n : Int) + 1) * 128 ≤ zs.length := by omega
  clear hcell hzl
  go_enter Try.func23, Try.ntmps23
  go_wp2_with fail
  refine (valid_any B _ zs ps _ (hR.below hb0) hzl' (by omega) hel').mono ?_
  rintro e w1 ⟨rfl, hb1⟩
  have hBx1 := hBx.below hb1
  have hbel1 := hb0.trans (hb1.mono hb0.size)
  obtain ⟨c0, c1, c2⟩ := hBx1.cells
  clear hBx hb1
  go_wp2_with fail
  refine (has_any B n _ _ _ (by omega) hB2).mono ?_
  rintro e w2 ⟨rfl, hb2⟩
  have hBx2 := hBx1.below hb2
  have hbel2 := hbel1.trans (hb2.mono hbel1.size)
  clear c0 c1 c2 hBx1 hb2 hbel1
  obtain ⟨c0, c1, c2⟩ := hBx2.cells
  go_wp2_with fail
  refine (blockAt_any db doff zs.length dc n zs _ rfl (by have := HZL.out; omega) hcap hzl' (fun i hi => (hbel2.cell (p := ⟨db, doff + i, none⟩) (World.block_lt_of_cell? _ _ (hdc i hi))).trans (hdc i hi))).mono ?_
  rintro e w3 ⟨rfl, rfl⟩
  have hlt2 := hBx2.lt
  go_wp2_with (first | ((with_reducible refine wpList_alloc128 ?_ ?_); exact ⟨rfl, rfl⟩) | ((with_reducible refine wpList_store_new hbl ?_ ?_); exact ⟨rfl, _, _, _, rfl, rfl, rfl, by simp⟩))
  have hS0 := Seen.start hbel2 (blk zs n) hbl (.cells (u8s (blk zs n)) 76)
  obtain ⟨_, _, he, hpc⟩ := k2
  simp only [Value.slice.injEq, true_and] at he
  obtain ⟨rfl, rfl⟩ := he
  clear c0 c1 c2 hBx2 hlt2 hdc k1 hR hb0
  go_loopw [8, 23] (fun _ i wr => ∃ k : Nat, k ≤ ps.length ∧ i = .int .i64 k ∧ Seen w wr (w2.heap.size + 1) (seenIn zs n (ps.take k))) (fun _ i _ => ps.length - (intOf i).toNat)
  case atStart => exact ⟨0, Nat.zero_le _, rfl, hS0⟩
  case round =>
    obtain ⟨k, hk, rfl, hS⟩ := hrel
    clear hS0
    by_cases hlt : k < ps.length
    · obtain ⟨b, off, rfl, hcell⟩ := hpc (by omega)
      obtain ⟨ea, ec, g1, g2, g3⟩ := hcell k hlt
      have hbw := World.block_lt_of_cell? _ _ g1
      have hpk := of_decide_eq_true (hel k hlt)
      have HT : Hid (seenIn zs n (ps.take (k + 1)) = if (ps.getD k (0, [])).1 = n then (ps.getD k (0, [])).2 else seenIn zs n (ps.take k)) := seenIn_take zs n ps k hlt
      rw [← hS.below.cell (p := ⟨b, off + k * 2, none⟩) hbw] at g1
      rw [← hS.below.cell (p := ⟨b, off + k * 2 + 1, none⟩) hbw] at g2
      have g4 := g3.below hS.below
      clear hcell g3
      generalize ps.getD k (0, []) = p at g1 g2 g4 hpk HT
      obtain ⟨r, ds⟩ := p
      simp only at g1 g2 g4 hpk HT
      obtain ⟨-, -, hdl⟩ := hpk
      rw [hdl] at g2 g4
      have hS1 := hS.alloc (.cells #[.int .i64 r, .slice ea 128 ec] 38)
      by_cases hr : r = n
      · subst hr
        rw [if_pos rfl] at HT
        have g5 := g4.below (belowA wr (.cells #[.int .i64 n, .slice ea 128 ec] 38))
        have hsh := g5.shape
        obtain ⟨_, _, he, hx⟩ := hsh
        simp only [Value.slice.injEq] at he
        obtain ⟨rfl, -, rfl⟩ := he
        obtain ⟨eb, eo, rfl, -⟩ := hx (by omega)
        have hRd := Rng8.of_bts g5 rfl hdl
        have hS2 := hS1.stored hdl
        have hTh := hS1.there
        have heq : ((n : Int) == (n : Int)) = true := by simp
        clear hx g4 g5 hS hS1 hpc
        go_wp2_with (first | ((with_reducible refine wpList_load128 hRd ?_ ?_); exact ⟨rfl, _, rfl, rfl⟩) | ((with_reducible refine wpList_store128 hTh hdl ?_ ?_); exact ⟨rfl, _, _, rfl, rfl, rfl⟩))
        go_roundw
        case rel => exact ⟨k + 1, by omega, by go_num, by rw [HT.out]; exact hS2⟩
        case measure => simp [intOf]; omega
      · rw [if_neg hr] at HT
        have hne : (r == (n : Int)) = false := by simpa using hr
        clear g4 hS hpc hr
        go_wp2
        go_roundw
        case rel => exact ⟨k + 1, by omega, by go_num, by rw [HT.out]; exact hS1⟩
        case measure => simp [intOf]; omega
    · have HT : Hid (ps.take k = ps) := List.take_of_length_le (by omega)
      rw [HT.out] at hS
      have hend : Own8 (w2.heap.size + 1) (w2.heap.size + 1 + 1) wr (.slice (some ⟨w2.heap.size + 1, 0, none⟩) 128 128) (seenIn zs n ps) := hS.rng.own hS.there hsm 128 128 rfl
      have hlt3 := hS.lt
      have hbel3 := hS.below
      have hbase := hS.base
      clear hpc hS
      go_wp2
      go_ret2
      exact ⟨w2.heap.size + 1, rfl, hbase, hlt3, hend, hbel3⟩
end Go.Proofs.Ytbadedhliplkeaa
