import Derived.Test.YtfbjagjgofdheaaGreatDoorHb
import Derived.Laws.BytesString
import Derived.Lib.LazyBuf
namespace Go.Proofs.YtfbjagjgofdheaaGreatDoor
open Go.RowKit
set_option linter.unusedVariables false

/-- a []Root whose cells lie in a block from lo up to hi and may be written -/
def TOwn (lo hi : Nat) (w : World) (v : Value) (rs : List R2) : Prop :=
  ∃ a cap, v = .slice a rs.length cap ∧ (0 < rs.length → ∃ b off, a = some ⟨b, off, none⟩ ∧ lo ≤ b ∧ b < hi ∧ b < w.heap.size ∧ (∀ j, w.frozen? ⟨b, j, none⟩ = false) ∧ ∀ i, i < rs.length → w.cell? ⟨b, off + i * 2, none⟩ = some (.int .i64 (rs.getD i (0, 0)).1) ∧ w.cell? ⟨b, off + i * 2 + 1, none⟩ = some (.int .i64 (rs.getD i (0, 0)).2))
theorem TOwn.read {lo hi : Nat} {w : World} {v : Value} {rs : List R2} (h : TOwn lo hi w v rs) : TRead w v rs := by
  obtain ⟨a, cap, hv, hc⟩ := h
  refine ⟨a, cap, hv, fun hp => ?_⟩
  obtain ⟨b, off, ha, _, _, _, _, hcell⟩ := hc hp
  exact ⟨b, off, ha, hcell⟩
theorem TOwn.kept {lo hi : Nat} {w w' : World} {v : Value} {rs : List R2} (h : TOwn lo hi w v rs) (hs : w.heap.size ≤ w'.heap.size) (k : ∀ b, lo ≤ b → b < hi → b < w.heap.size → w'.heap[b]? = w.heap[b]?) : TOwn lo hi w' v rs := by
  obtain ⟨a, cap, hv, hc⟩ := h
  refine ⟨a, cap, hv, fun hp => ?_⟩
  obtain ⟨b, off, ha, h1, h2, h3, h4, hcell⟩ := hc hp
  have e := k b h1 h2 h3
  refine ⟨b, off, ha, h1, h2, by omega, fun j => ?_, fun i hi => ?_⟩
  · rw [World.frozen?_of_block (w := w) (w' := w') (a := ⟨b, j, none⟩) e]; exact h4 j
  · rw [World.cell?_of_block (w := w) (w' := w') (a := ⟨b, off + i * 2, none⟩) e, World.cell?_of_block (w := w) (w' := w') (a := ⟨b, off + i * 2 + 1, none⟩) e]
    exact hcell i hi
theorem TOwn.below {lo hi : Nat} {w w' : World} {v : Value} {rs : List R2} (h : TOwn lo hi w v rs) (k : Below w.heap.size w w') : TOwn lo hi w' v rs :=
  h.kept k.size fun b _ _ h3 => k.block b h3
theorem TOwn.stored {lo hi : Nat} {w : World} {b off n cap : Nat} {rs : List R2} (h : TOwn lo hi w (.slice (some ⟨b, off, none⟩) n cap) rs) (j : Nat) (hj : j < n) (x y : Int) :
    TOwn lo hi ((w.setCell ⟨b, off + j * 2, none⟩ (.int .i64 x)).setCell ⟨b, off + j * 2 + 1, none⟩ (.int .i64 y)) (.slice (some ⟨b, off, none⟩) n cap) (rs.set j (x, y)) ∧
      Upd lo hi w ((w.setCell ⟨b, off + j * 2, none⟩ (.int .i64 x)).setCell ⟨b, off + j * 2 + 1, none⟩ (.int .i64 y)) := by
  obtain ⟨a, cap', hv, hc⟩ := h
  simp only [Value.slice.injEq] at hv
  obtain ⟨rfl, rfl, rfl⟩ := hv
  obtain ⟨b', off', ha, h1, h2, h3, h4, hcell⟩ := hc (by omega)
  simp only [Option.some.injEq, Addr.mk.injEq, and_true] at ha
  obtain ⟨rfl, rfl⟩ := ha
  refine ⟨⟨_, _, by rw [List.length_set], fun _ => ⟨b, off, rfl, h1, h2, by simpa using h3, fun j => by simpa using h4 j, fun i hi => ?_⟩⟩, ((Upd.refl _ _ _).setCell (p := ⟨b, off + j * 2, none⟩) h1 h2 _).setCell (p := ⟨b, off + j * 2 + 1, none⟩) h1 h2 _⟩
  rw [List.length_set] at hi
  obtain ⟨g1, g2⟩ := hcell i hi
  simp only [List.getD_eq_getElem?_getD] at g1 g2 ⊢
  rw [List.getElem?_set]
  by_cases hij : j = i
  · subst hij
    rw [if_pos rfl, if_pos hi]
    have n12 : (⟨b, off + j * 2 + 1, none⟩ : Addr) ≠ ⟨b, off + j * 2, none⟩ := by simp
    refine ⟨?_, ?_⟩
    · rw [World.cell?_setCell_other _ _ _ _ n12, World.cell?_setCell_same _ _ _ g1]; rfl
    · rw [World.cell?_setCell_same _ _ _ ((World.cell?_setCell_other _ _ _ _ (Ne.symm n12)).trans g2)]; rfl
  · rw [if_neg hij]
    have hn : ∀ p q, p < 2 → q < 2 → (⟨b, off + i * 2 + p, none⟩ : Addr) ≠ ⟨b, off + j * 2 + q, none⟩ := fun p q hp hq hh => by simp only [Addr.mk.injEq] at hh; omega
    have m1 := hn 0 0 (by omega) (by omega); have m2 := hn 0 1 (by omega) (by omega)
    have m4 := hn 1 0 (by omega) (by omega); have m5 := hn 1 1 (by omega) (by omega)
    simp only [Nat.add_zero] at m1 m2 m4
    refine ⟨?_, ?_⟩
    · rw [World.cell?_setCell_other _ _ _ _ (Ne.symm m2), World.cell?_setCell_other _ _ _ _ (Ne.symm m1), g1]
    · rw [World.cell?_setCell_other _ _ _ _ (Ne.symm m5), World.cell?_setCell_other _ _ _ _ (Ne.symm m4), g2]

theorem infoRoot : (Tryz.prog.info? 46).map (fun i => (i.zero, i.size, i.bytes)) = some (some (.agg #[.int .i64 0, .int .i64 0]), 2, 16) := by kernel_rfl
/-- the first k roots laid, then noughts -/
def tnP (rs : List R2) (k : Nat) : List R2 := rs.take k ++ List.replicate (rs.length - k) (0, 0)
theorem tnP_length (rs : List R2) (k : Nat) (h : k ≤ rs.length) : (tnP rs k).length = rs.length := by simp [tnP]; omega
theorem tnP_zero (rs : List R2) : tnP rs 0 = List.replicate rs.length (0, 0) := by simp [tnP]
theorem tnP_end (rs : List R2) : tnP rs rs.length = rs := by simp [tnP]
theorem tnP_step (rs : List R2) (k : Nat) (h : k < rs.length) : (tnP rs k).set k (rs.getD k (0, 0)) = tnP rs (k + 1) := by
  unfold tnP
  have hl : (rs.take k).length = k := by simp; omega
  rw [List.set_append_right _ _ (by omega), hl, Nat.sub_self, show rs.length - k = (rs.length - (k + 1)) + 1 by omega, List.replicate_succ, List.set_cons_zero, List.take_succ_eq_append_getElem h]
  simp only [List.getD_eq_getElem?_getD, List.getElem?_eq_getElem h, Option.getD_some, List.append_assoc, List.cons_append, List.nil_append]
theorem madeRoots (n : Nat) (hn : n ≤ 1048576) (w : World) : ∃ cur, (Instr.makeSlice 39 (.int .i64 (n : Int)) (.int .i64 (n : Int))).run Tryz.prog w = .ok (.slice (some ⟨w.heap.size, 0, none⟩) n n) (w.alloc (.cells cur 46)) ∧
    TOwn w.heap.size (w.heap.size + 1) (w.alloc (.cells cur 46)) (.slice (some ⟨w.heap.size, 0, none⟩) n n) (List.replicate n (0, 0)) := by
  obtain ⟨i, hi, hzz⟩ := Option.map_eq_some_iff.1 infoRoot
  simp only [Prod.mk.injEq] at hzz
  obtain ⟨hz, hs, hby⟩ := hzz
  have hr := run_make (P := Tryz.prog) w 39 46 i _ Tryz.underlying39 hi hz .i64 .i64 n n (by omega) (Int.le_refl _) (by rw [hby]; omega) (by omega)
  simp only [Int.toNat_natCast, hs] at hr
  refine ⟨_, hr, ?_⟩
  refine ⟨_, n, by simp, fun hp => ⟨w.heap.size, 0, rfl, Nat.le_refl _, Nat.lt_succ_self _, by simp, fun j => World.frozen?_alloc_at _ _ _ _ rfl, fun i hi => ?_⟩⟩
  simp only [List.length_replicate] at hi
  rw [Nat.zero_add, World.cell?_alloc_at _ _ _ _ rfl, World.cell?_alloc_at _ _ _ _ rfl]
  have e : (List.replicate n ((0, 0) : R2)).getD i (0, 0) = (0, 0) := by simp [hi]
  rw [e]
  have m0 : i * 2 < n * 2 := by omega
  have m1 : i * 2 + 1 < n * 2 := by omega
  have q1 : (i * 2 + 1) % 2 = 1 := by omega
  simp [madeCells, Value.cells, m0, m1, q1]

/-- the roots of a superblock -/
def rdU (zs : List Int) (n : Nat) : List R2 := (List.range n).map fun i => (le2 zs (16 + 4 * i), le2 zs (18 + 4 * i))
theorem rdU_length (zs : List Int) (n : Nat) : (rdU zs n).length = n := by simp [rdU]
theorem rdU_get (zs : List Int) (n k : Nat) (h : k < n) : (rdU zs n).getD k (0, 0) = (le2 zs (16 + 4 * k), le2 zs (18 + 4 * k)) := by
  simp [rdU, h]
/-- readSuper at work -/
structure Ru2 (w W : World) (n : Nat) (zs : List Int) (rs : List R2) : Prop where
  hd : W.heap[w.heap.size]? = some (.cells #[.int .i64 4, .int .i64 n] 73 (0, 0))
  raw : W.heap[w.heap.size + 1]? = some (.cells (u8s zs) 100 (0, 0))
  own : TOwn (w.heap.size + 1 + 1) (w.heap.size + 1 + 1 + 1) W (.slice (some ⟨w.heap.size + 1 + 1, 0, none⟩) n n) rs
  below : Below w.heap.size w W
  size : w.heap.size + 1 + 1 + 1 ≤ W.heap.size

set_option maxRecDepth 100000 in
set_option maxHeartbeats 1000000 in
theorem readSuper_any (n : Nat) (hn : n ≤ 16) (zs : List Int) (hl : zs.length = 128) (hz : Byt zs) (h10 : zs.getD 10 0 = 0) (h11 : zs.getD 11 0 = 0) (w : World) :
    Calls Tryz.prog 66 #[.agg #[.int .i64 4, .int .i64 n], .agg (u8s zs)] w fun e w' => (∃ a c, e = .returned (.iface 85 (.agg #[.int .i64 4, .int .i64 n, .int .i64 (accW zs 2 2), .int .i64 (accW zs 4 8), .int .i64 (accW zs 12 2), .int .i64 (accW zs 14 2), .slice a n c])) ∧ TRead w' (.slice a (rdU zs n).length c) (rdU zs n) ∧ ∀ p, a = some p → w.heap.size ≤ p.block) ∧ Below w.heap.size w w' := by
  obtain ⟨cur, hmk, hO⟩ := madeRoots n (by omega) ((w.alloc (.cells #[.int .i64 4, .int .i64 n] 73)).alloc (.cells (u8s zs) 100))
  have hs2 : ((w.alloc (.cells #[.int .i64 4, .int .i64 n] 73)).alloc (.cells (u8s zs) 100)).heap.size = w.heap.size + 1 + 1 := by simp
  have hrz := tnP_zero (rdU zs n)
  rw [rdU_length] at hrz
  rw [← hrz, hs2] at hO
  rw [hs2] at hmk
  have h1 := heap_alloc_new w (.cells #[.int .i64 4, .int .i64 n] 73)
  have h2 := heap_alloc_new (w.alloc (.cells #[.int .i64 4, .int .i64 n] 73)) (.cells (u8s zs) 100)
  have hst : Ru2 w (((w.alloc (.cells #[.int .i64 4, .int .i64 n] 73)).alloc (.cells (u8s zs) 100)).alloc (.cells cur 46)) n zs (tnP (rdU zs n) 0) :=
    ⟨((belowA _ _).block _ (by simp; omega)).trans (((belowA _ _).block _ (by simp)).trans h1), ((belowA _ _).block _ (by simp)).trans (by simpa using h2), hO, ((belowA _ _).trans ((belowA _ _).mono (by simp))).trans ((belowA _ _).mono (by simp; omega)), by simp⟩
  clear hO h1 h2 hs2 hrz
  go_enter Tryz.func66, Tryz.ntmps66
  go_wp2_with fail
  generalize (((w.alloc (.cells #[.int .i64 4, .int .i64 n] 73)).alloc (.cells (u8s zs) 100)).alloc (.cells cur 46)) = W0 at *
  clear hmk
  go_loopw [6, 7, 13] (fun _ _ i wr => ∃ k : Nat, k ≤ n ∧ i = .int .i64 k ∧ Ru2 w wr n zs (tnP (rdU zs n) k)) (fun _ _ i _ => n - (intOf i).toNat)
  case atStart => exact ⟨0, by omega, rfl, hst⟩
  case round =>
    obtain ⟨k, hk, rfl, hK⟩ := hrel
    clear hst
    have NN : Hid (∀ off c, off + 1 < 128 → Calls Tryz.prog 72 #[.slice (some ⟨w.heap.size + 1, off, none⟩) 2 c] wr.drew fun e w' => e = .returned (.int .i64 (le2 zs off)) ∧ wr.drew = w') := fun off c h => getNumber_row hz hK.raw off c (by omega)
    by_cases hlt : k < n
    · have hki : (k : Int) < (n : Int) := by omega
      obtain ⟨y, hy⟩ : ∃ y : Nat, y = 16 + 4 * k := ⟨_, rfl⟩
      have m1 : IntKind.i64.wrap (4 * (k : Int)) = 4 * (k : Int) := IntWalk.i64_in _ ⟨by omega, by omega⟩
      have m2 : IntKind.i64.wrap (16 + 4 * (k : Int)) = (y : Int) := (IntWalk.i64_in _ ⟨by omega, by omega⟩).trans (by omega)
      have y0 : (0 : Int) ≤ (y : Int) := by omega
      have y1 : (y : Int) ≤ 128 := by omega
      have y2 : ¬ (128 : Nat) = y := by omega
      have y3 : (4 : Int) ≤ 128 - (y : Int) := by omega
      have HY : Hid (y = 16 + 4 * k) := hy
      clear hy
      go_wp2_with fail
      obtain ⟨cp, hcp⟩ : ∃ cp : Nat, 128 - y = cp := ⟨_, rfl⟩
      have HX : Hid (cp = 128 - y) := hcp.symm
      have z1 : (2 : Int) ≤ (cp : Int) := by omega
      have z2 : (4 : Int) ≤ (cp : Int) := by omega
      have z4 : ¬ cp = 2 := by omega
      have z6 : ¬ cp = 0 := by omega
      rw [hcp]
      clear hcp
      have HNN : Hid (∀ off c, off + 1 < 128 → Calls Tryz.prog 72 #[.slice (some ⟨w.heap.size + 1, off, none⟩) 2 c] wr.drew fun e w' => e = .returned (.int .i64 (le2 zs off)) ∧ wr.drew = w') := NN.out
      have HT : Hid ((tnP (rdU zs n) k).set k (le2 zs y, le2 zs (y + 2)) = tnP (rdU zs n) (k + 1)) := by
        have := tnP_step (rdU zs n) k (by rw [rdU_length]; exact hlt)
        rw [rdU_get zs n k hlt] at this
        have e1 : 18 + 4 * k = y + 2 := by rw [HY.out]; omega
        rw [e1, ← HY.out] at this
        exact this
      have hln : (tnP (rdU zs n) k).length = n := by rw [tnP_length _ _ (by rw [rdU_length]; omega), rdU_length]
      have ho := hK.own
      obtain ⟨s1, s2⟩ := ho.stored k (by omega) (le2 zs y) (le2 zs (y + 2))
      rw [HT.out, Nat.zero_add] at s1
      rw [Nat.zero_add] at s2
      obtain ⟨_, _, he, hs⟩ := ho
      simp only [Value.slice.injEq] at he
      obtain ⟨rfl, hbad, rfl⟩ := he
      clear hbad
      obtain ⟨_, _, he, _, _, _, hfr, hcc⟩ := hs (by omega)
      simp only [Option.some.injEq, Addr.mk.injEq, and_true] at he
      obtain ⟨rfl, rfl⟩ := he
      obtain ⟨c0, c1⟩ := hcc k (by omega)
      rw [Nat.zero_add] at c0 c1
      have f0 := hfr (k * 2)
      have f1 := hfr (k * 2 + 1)
      have HN1 : Hid (Ru2 w (((wr.setCell ⟨w.heap.size + 1 + 1, k * 2, none⟩ (.int .i64 (le2 zs y))).setCell ⟨w.heap.size + 1 + 1, k * 2 + 1, none⟩ (.int .i64 (le2 zs (y + 2)))).drew) n zs (tnP (rdU zs n) (k + 1))) := by
        have q1 := hK.size
        exact ⟨(s2.block _ (by omega) (by omega)).trans hK.hd, (s2.block _ (by omega) (by omega)).trans hK.raw, s1.below (Below.refl _ _).drew, (hK.below.trans (s2.below (by omega) (by omega))).drew, Nat.le_trans q1 s2.size⟩
      generalize (tnP (rdU zs n) k).getD k (0, 0) = cpp at *
      clear hs hcc hfr hln s1 s2 hK NN
      go_wp2_with fail
      go_region_held3 (fun _ => True) (exact trivial) ((go_at_call 72; refine (HNN.out _ _ (by have := HY.out; omega)).mono ?_; rintro e w1 ⟨rfl, rfl⟩))
      clear HNN c0 c1 f0 f1
      go_wp2
      go_roundw
      case rel => exact ⟨k + 1, by omega, by go_num, HN1.out⟩
      case measure => simp [intOf]; omega
    · have hke : k = n := by omega
      have h0 : wr.cell? ⟨w.heap.size, 0, none⟩ = some (.int .i64 4) := (cell_of_row wr _ _ _ _ _ hK.hd).trans rfl
      have h1 : wr.cell? ⟨w.heap.size, 1, none⟩ = some (.int .i64 n) := (cell_of_row wr _ _ _ _ _ hK.hd).trans rfl
      have hR : TRead wr (.slice (some ⟨w.heap.size + 1 + 1, 0, none⟩) (rdU zs n).length n) (rdU zs n) := by
        have q := hK.own.read
        have e := tnP_end (rdU zs n)
        rw [rdU_length] at e
        rw [hke, e] at q
        rw [rdU_length]
        exact q
      have HR : Hid (TRead wr (.slice (some ⟨w.heap.size + 1 + 1, 0, none⟩) (rdU zs n).length n) (rdU zs n)) := hR
      have hb := hK.below
      have hki : ¬ (k : Int) < (n : Int) := by omega
      have NW : Hid (∀ off n c, off + n ≤ 128 → (n = 2 ∨ n = 8 ∧ zs.getD (off + 6) 0 = 0 ∧ zs.getD (off + 7) 0 = 0) → Calls Tryz.prog 72 #[.slice (some ⟨w.heap.size + 1, off, none⟩) n c] wr.drew fun e w' => e = .returned (.int .i64 (accW zs off n)) ∧ wr.drew = w') := fun off n c h1 h2 => getNumber_W hz hK.raw off n c (by omega) h2
      clear hK hR hke NN
      go_wp2_with fail
      go_region_held3 (fun w' => w'.cell? ⟨w.heap.size, 0, none⟩ = some (.int .i64 4) ∧ w'.cell? ⟨w.heap.size, 1, none⟩ = some (.int .i64 n)) (first | go_keep | exact ⟨h0, h1⟩) ((go_at_call 72; refine (NW.out _ _ _ (by omega) (by first | exact .inl rfl | exact .inr ⟨rfl, h10, h11⟩)).mono ?_; rintro e w1 ⟨rfl, rfl⟩))
      clear NW h0 h1
      go_wp2
      go_ret
      exact ⟨⟨_, _, rfl, TRead.below (w := wr) HR.out (Below.refl _ _).drew, fun p hp => by cases hp; show w.heap.size ≤ w.heap.size + 1 + 1; omega⟩, hb.drew⟩
end Go.Proofs.YtfbjagjgofdheaaGreatDoor

namespace Go.Proofs.YtfbjagjgofdheaaGreatDoor
open Go.RowKit
set_option linter.unusedVariables false

theorem acc8_of (f : Nat → Nat) (m : Nat) : ∀ k, (∀ i, i < k → f i = m / 256 ^ i % 256) → acc8 f k = m % 256 ^ k
  | 0, _ => by rw [acc8, Nat.pow_zero, Nat.mod_one]
  | k + 1, h => by rw [acc8, acc8_of f m k (fun i hi => h i (by omega)), h k (by omega), Nat.mod_pow_succ]
theorem accW_of {zs : List Int} {off n : Nat} {v : Int} (hv : 0 ≤ v) (h : ∀ i, i < n → zs.getD (off + i) 0 = leB v i) (hlt : v.toNat < 256 ^ n) : accW zs off n = v := by
  obtain ⟨m, rfl⟩ := Int.eq_ofNat_of_zero_le hv
  rw [Int.toNat_natCast] at hlt
  unfold accW
  rw [acc8_of _ m n (fun i hi => ?_), Nat.mod_eq_of_lt hlt]
  simp only [h i hi, leB]
  have e : ((m : Int) / 2 ^ (8 * i) % 256) = ((m / 256 ^ i % 256 : Nat) : Int) := by
    rw [show (256 : Nat) ^ i = 2 ^ (8 * i) by rw [Nat.pow_mul]]
    simp
  rw [e, Int.toNat_natCast]

section
variable {N g nx tb : Int} {rs : List R2}
theorem sup_at (h : rs.length ≤ 16) (j : Nat) (hj : j < 16) : (supL N g nx tb rs).getD j 0 = (supH N g nx tb rs.length).getD j 0 := by
  have hl := supQ_length N g nx tb rs rs.length
  rw [supL, sealL_at _ _ (by omega), pre_head (P := supQ N g nx tb rs) (supQ_step N g nx tb rs) (h := 16) (supH_length _ _ _ _ _) _ _ hj]
  rfl
theorem sup_head (h : rs.length ≤ 16) : (supL N g nx tb rs).getD 0 0 = 4 ∧ (supL N g nx tb rs).getD 1 0 = rs.length := ⟨by rw [sup_at h 0 (by omega)]; rfl, by rw [sup_at h 1 (by omega)]; rfl⟩
theorem sup_N (h : spOK N g nx tb rs) : accW (supL N g nx tb rs) 2 2 = N := by
  obtain ⟨⟨h1, h2, h3, h4⟩, hl, -⟩ := h
  refine accW_of (by omega) (fun i hi => ?_) (by omega)
  rw [sup_at hl.2 _ (by omega)]
  rcases (by omega : i = 0 ∨ i = 1) with rfl | rfl <;> rfl
theorem sup_g (h : spOK N g nx tb rs) : accW (supL N g nx tb rs) 4 8 = g := by
  obtain ⟨⟨h1, h2, h3, h4⟩, hl, -⟩ := h
  refine accW_of (by omega) (fun i hi => ?_) (by omega)
  rw [sup_at hl.2 _ (by omega)]
  rcases (by omega : i = 0 ∨ i = 1 ∨ i = 2 ∨ i = 3 ∨ i = 4 ∨ i = 5 ∨ i = 6 ∨ i = 7) with rfl | rfl | rfl | rfl | rfl | rfl | rfl | rfl <;> rfl
theorem sup_nx (h : spOK N g nx tb rs) : accW (supL N g nx tb rs) 12 2 = nx := by
  obtain ⟨⟨h1, h2, h3, h4⟩, hl, -⟩ := h
  refine accW_of (by omega) (fun i hi => ?_) (by omega)
  rw [sup_at hl.2 _ (by omega)]
  rcases (by omega : i = 0 ∨ i = 1) with rfl | rfl <;> rfl
theorem sup_tb (h : spOK N g nx tb rs) : accW (supL N g nx tb rs) 14 2 = tb := by
  obtain ⟨⟨h1, h2, h3, h4⟩, hl, -⟩ := h
  refine accW_of (by omega) (fun i hi => ?_) (by omega)
  rw [sup_at hl.2 _ (by omega)]
  rcases (by omega : i = 0 ∨ i = 1) with rfl | rfl <;> rfl
theorem sup_zero (h : spOK N g nx tb rs) : (supL N g nx tb rs).getD 10 0 = 0 ∧ (supL N g nx tb rs).getD 11 0 = 0 := by
  obtain ⟨⟨h1, h2, h3, h4⟩, hl, -⟩ := h
  have e6 : (supH N g nx tb rs.length).getD 10 0 = leB g 6 := rfl
  have e7 : (supH N g nx tb rs.length).getD 11 0 = leB g 7 := rfl
  rw [sup_at hl.2 _ (by omega), sup_at hl.2 _ (by omega), e6, e7]
  constructor
  · simp only [leB, Nat.reduceMul]
    rw [Int.ediv_eq_zero_of_lt (by omega) (by omega)]; rfl
  · simp only [leB, Nat.reduceMul]
    rw [Int.ediv_eq_zero_of_lt (by omega) (by omega)]; rfl
theorem sup_roots (h : spOK N g nx tb rs) : rdU (supL N g nx tb rs) rs.length = rs := by
  obtain ⟨⟨h1, h2, h3, h4⟩, hl, hr⟩ := h
  have hq := supQ_length N g nx tb rs rs.length
  apply List.ext_getElem?
  intro k
  by_cases hk : k < rs.length
  · obtain ⟨i1, i2, -⟩ := hr k hk
    have key : ∀ j, j < 4 → (supL N g nx tb rs).getD (16 + 4 * k + j) 0 = (rootB (rs.getD k (0, 0))).getD j 0 := fun j hj => by
      rw [supL, sealL_at _ _ (by omega), pre_at (P := supQ N g nx tb rs) (supQ_step N g nx tb rs) (h := 16) (m := 4) (supH_length _ _ _ _ _) _ (fun k _ => by simp [rootB, leN_length]) k hk j hj]
    have q := rdU_get (supL N g nx tb rs) rs.length k hk
    have e1 : le2 (supL N g nx tb rs) (16 + 4 * k) = (rs.getD k (0, 0)).1 := le2_of (key 0 (by omega)) (key 1 (by omega)) ⟨by omega, by omega⟩
    have e2 : le2 (supL N g nx tb rs) (18 + 4 * k) = (rs.getD k (0, 0)).2 := by
      rw [show 18 + 4 * k = 16 + 4 * k + 2 by omega]
      exact le2_of (key 2 (by omega)) (key 3 (by omega)) ⟨by omega, by omega⟩
    rw [e1, e2] at q
    have hk2 : k < (rdU (supL N g nx tb rs) rs.length).length := by rw [rdU_length]; exact hk
    simp only [List.getD_eq_getElem?_getD, List.getElem?_eq_getElem hk, List.getElem?_eq_getElem hk2, Option.getD_some] at q ⊢
    rw [q]
  · rw [List.getElem?_eq_none (by rw [rdU_length]; omega), List.getElem?_eq_none (by omega)]
end

set_option maxRecDepth 100000 in
set_option maxHeartbeats 1000000 in
theorem readForm_S (n : Nat) (hn : 1 ≤ n ∧ n ≤ 16) (zs : List Int) (hl : zs.length = 128) (hz : Byt zs) (h3 : zs.getD 0 0 = 4) (hm : zs.getD 1 0 = n) (h10 : zs.getD 10 0 = 0) (h11 : zs.getD 11 0 = 0) (w : World) :
    Calls Tryz.prog 47 #[.agg (u8s zs)] w fun e w' => (∃ a c, e = .returned (.tuple #[.iface 85 (.agg #[.int .i64 4, .int .i64 n, .int .i64 (accW zs 2 2), .int .i64 (accW zs 4 8), .int .i64 (accW zs 12 2), .int .i64 (accW zs 14 2), .slice a n c]), .nilIface]) ∧ TRead w' (.slice a (rdU zs n).length c) (rdU zs n) ∧ Fsh w.heap.size a) ∧ Below w.heap.size w w' := by
  have hb0 := belowA w (.cells (u8s zs) 100)
  have hx : (w.alloc (.cells (u8s zs) 100)).heap[w.heap.size]? = some (.cells (u8s zs) 100 (0, 0)) := heap_alloc_new _ _
  have hR0 := rng_new w zs hl 100 w.heap.size rfl
  have b0 := hR0.2 0 (by omega)
  have b1 := hR0.2 1 (by omega)
  rw [h3] at b0
  rw [hm] at b1
  simp only [Nat.zero_add] at b0 b1
  have hs0 : w.heap.size < (w.alloc (.cells (u8s zs) 100)).heap.size := by simp
  have hz0 : (w.alloc (.cells (u8s zs) 100)).heap.size = w.heap.size + 1 := by simp
  have HT : Hid _ := fun w => readSuper_any n hn.2 zs hl hz h10 h11 w
  have hw : IntKind.i64.wrap (n : Int) = (n : Int) := IntWalk.i64_in _ ⟨by omega, by omega⟩
  go_enter Tryz.func47, Tryz.ntmps47
  go_wp2_with fail
  refine (checkNumber_ok 4 _ (.inr (.inr (.inr ⟨rfl, by omega, by omega⟩))) _).mono ?_
  rintro e w1 ⟨rfl, hb1⟩
  have hx1 : w1.heap[w.heap.size]? = some (.cells (u8s zs) 100 (0, 0)) := (hb1.block _ (by simp; omega)).trans (((belowA _ _).block _ hs0).trans hx)
  have hy0 := heap_alloc_new (w.alloc (.cells (u8s zs) 100)) (.cells #[.int .i64 4, .int .i64 n] 73)
  rw [hz0] at hy0
  have hy1 := (hb1.block _ (by simp)).trans hy0
  obtain ⟨p0, p1, -, -⟩ := row2 hy1
  have hR : Rng8 w1 w.heap.size 0 zs := ⟨hl, fun i hi => by
    rw [Nat.zero_add, cell_of_row w1 _ i _ _ _ hx1]
    simp [u8s, show i < zs.length by omega]⟩
  have hB0 := hb0.trans ((belowA (w.alloc (.cells (u8s zs) 100)) (.cells #[.int .i64 4, .int .i64 n] 73)).mono hb0.size)
  have hB1 := hB0.trans (hb1.mono hB0.size)
  clear hb0 hb1 hB0 hx hx1 hy0 hy1 b0 b1 hs0 hz0 hR0
  go_wp2_with (first | ((with_reducible refine wpList_load128 hR ?_ ?_); exact ⟨rfl, _, rfl, rfl⟩))
  refine (HT.out _).mono ?_
  rintro e w2 ⟨⟨a, c, rfl, hrr, hfs⟩, hb2⟩
  have HR : Hid _ := hrr
  have HF : Hid (Fsh w.heap.size a) := fun p hp => Nat.le_trans hB1.size (hfs p hp)
  have hB2 := hB1.trans (hb2.mono hB1.size)
  clear hrr hR p0 p1 hfs
  go_wp2
  exact bodyPost_ret (v := .tuple #[.iface 85 (.agg #[.int .i64 4, .int .i64 n, .int .i64 (accW zs 2 2), .int .i64 (accW zs 4 8), .int .i64 (accW zs 12 2), .int .i64 (accW zs 14 2), .slice a n c]), .nilIface]) (by simp [results, Tryz.results47, go_sem]) rfl ⟨⟨_, _, rfl, HR.out, HF.out⟩, hB2⟩

theorem methodCheckS (v : Value) (w : World) : (Go.method 284 85 v "loop.example/s01595/impl.check").run Tryz.prog w = .ok (104, v) w := by kernel_rfl
theorem methodLayS (v : Value) (w : World) : (Go.method 284 85 v "loop.example/s01595/impl.lay").run Tryz.prog w = .ok (105, v) w := by kernel_rfl
/-- a superblock's form in memory -/
def SupR (B : Nat) (N g nx tb : Int) (rs : List R2) (w : World) (v : Value) : Prop := ∃ a c, v = .agg #[.int .i64 4, .int .i64 rs.length, .int .i64 N, .int .i64 g, .int .i64 nx, .int .i64 tb, .slice a rs.length c] ∧ TRead w (.slice a rs.length c) rs ∧ Fsh B a
theorem supFrmd (B : Nat) {N g nx tb : Int} {rs : List R2} (h : spOK N g nx tb rs) : Frmd 85 104 105 (SupR B N g nx tb rs) (layU N g nx tb rs rs.length) where
  keep := fun w w' v ⟨a, c, e, hr, hf⟩ hb => ⟨a, c, e, hr.below hb, hf⟩
  mC := methodCheckS
  mL := methodLayS
  eC := enters Tryz.func104 (by kernel_rfl) rfl
  eL := enters Tryz.func105 (by kernel_rfl) rfl
  check := fun w v ⟨a, c, e, hr, _⟩ => by subst e; exact superCheck N g nx tb a c rs h w hr
  lay := fun w v ⟨a, c, e, hr, _⟩ => by subst e; exact superLay N g nx tb a c rs h.2.1 w hr
  len := layU_length N g nx tb rs _ h.2.1.2
  byt := layU_byt N g nx tb rs h.2.1.2 _ h.2.1.2
theorem decodeForm_S {N g nx tb : Int} {rs : List R2} (h : spOK N g nx tb rs) (b off c : Nat) (w : World) (hv : Bts w (.slice (some ⟨b, off, none⟩) 128 c) (supL N g nx tb rs)) :
    Calls Tryz.prog 31 #[.slice (some ⟨b, off, none⟩) 128 c] w fun e w' => (∃ v, e = .returned (.tuple #[.iface 85 v, .nilIface]) ∧ SupR w.heap.size N g nx tb rs w' v) ∧ Below w.heap.size w w' := by
  have hF := supFrmd w.heap.size h
  have hl := h.2.1
  rw [← supL_uns hl.2] at hF
  have hp : (supQ N g nx tb rs rs.length).length ≤ 124 := by rw [supQ_length]; omega
  have hB : Byt (supL N g nx tb rs) := (supQ_byt N g nx tb rs hl.2 _).seal
  refine decodeForm_gen hF (supL_length hl.2) hB (sealL_sld _ hp) b off c w (fun w1 hw1 => ?_) hv
  refine (readForm_S rs.length hl _ (supL_length hl.2) hB (sup_head hl.2).1 (sup_head hl.2).2 (sup_zero h).1 (sup_zero h).2 w1).mono ?_
  rintro e w' ⟨⟨a, c, rfl, hr, hf⟩, hb⟩
  rw [sup_roots h] at hr
  rw [sup_N h, sup_g h, sup_nx h, sup_tb h]
  exact ⟨⟨_, rfl, a, c, rfl, hr, fun p hp => Nat.le_trans hw1 (hf p hp)⟩, hb⟩
end Go.Proofs.YtfbjagjgofdheaaGreatDoor

namespace Go.Proofs.YtfbjagjgofdheaaGreatDoor
open Go.RowKit
set_option linter.unusedVariables false

/-- a text's bytes -/
def sb (s : ByteArray) : List Int := s.data.toList.map fun x => (x.toNat : Int)
theorem sb_length (s : ByteArray) : (sb s).length = s.size := by rw [sb, List.length_map, ← Lib.size_eq]
theorem sb_byt (s : ByteArray) : Byt (sb s) := fun i => by
  simp only [sb, List.getD_eq_getElem?_getD, List.getElem?_map]
  cases s.data.toList[i]? with
  | none => simp
  | some x => have := x.toNat_lt; simp; omega
theorem sb_inj {s t : ByteArray} (h : sb s = sb t) : s = t := by
  have hj : Function.Injective (fun x : UInt8 => (x.toNat : Int)) := fun a b hab => by
    have : a.toNat = b.toNat := Int.ofNat.inj hab
    exact UInt8.toNat_inj.1 this
  have := List.map_inj_right (fun a b hab => hj hab) |>.1 h
  have h2 : s.data = t.data := Array.toList_inj.1 this
  cases s; cases t; simpa using h2
/-- bytes as a text -/
def txB (zs : List Int) : ByteArray := zs.foldl (fun r n => r.push (UInt8.ofNat n.toNat)) ByteArray.empty
theorem push_data (r : ByteArray) (x : UInt8) : (r.push x).data.toList = r.data.toList ++ [x] := by
  cases r; simp [ByteArray.push]
theorem foldl_data (zs : List Int) : ∀ r : ByteArray, (zs.foldl (fun r n => r.push (UInt8.ofNat n.toNat)) r).data.toList = r.data.toList ++ zs.map fun n => UInt8.ofNat n.toNat := by
  induction zs with
  | nil => intro r; simp
  | cons z l ih => intro r; rw [List.foldl_cons, ih, push_data]; simp
theorem txB_data (zs : List Int) : (txB zs).data.toList = zs.map fun n => UInt8.ofNat n.toNat := by
  rw [txB, foldl_data]; rfl
theorem sb_tx {zs : List Int} (h : Byt zs) : sb (txB zs) = zs := by
  rw [sb, txB_data]
  apply List.ext_getElem?
  intro i
  have hi := h i
  simp only [List.getElem?_map, List.getD_eq_getElem?_getD] at hi ⊢
  cases hz : zs[i]? with
  | none => simp
  | some z =>
    rw [hz] at hi
    simp only [Option.getD_some] at hi
    simp only [Option.map_some, Option.some.injEq, UInt8.toNat_ofNat']
    omega
theorem tx_sb (s : ByteArray) : txB (sb s) = s := sb_inj (sb_tx (sb_byt s))

theorem conv_any {w : World} {a : Option Addr} {n cap : Nat} {zs : List Int} (h : Bts w (.slice a n cap) zs) (hp : 0 < n) : (convert 22 9 (.slice a n cap)).run Tryz.prog w = .ok (.string (txB zs)) w := by
  obtain ⟨_, _, he, hc⟩ := h.shape
  simp only [Value.slice.injEq] at he
  obtain ⟨rfl, rfl, rfl⟩ := he
  obtain ⟨b, off, rfl, hcell⟩ := hc hp
  rw [run_convert_bytes_string _ 22 9 5 _ _ _ Tryz.underlying22 Tryz.underlying5 Tryz.underlying9]
  rw [run_bytesToString _ _ zs.length cap zs ?_]
  · rfl
  · have hl := run_loadCells_list (P := Tryz.prog) w ⟨b, off, none⟩ (zs.map (Value.int .u8)) (fun j v hj => by
      have hjl : j < zs.length := by
        by_cases hh : j < zs.length
        · exact hh
        · simp [show zs.length ≤ j by omega] at hj
      have e : (({ block := b, off := off, spot := none } : Addr).add j) = ⟨b, off + j, none⟩ := by
        unfold Addr.add; by_cases h0 : j = 0 <;> simp [h0]
      rw [e, hcell j hjl]
      simp only [List.getElem?_map, List.getElem?_eq_getElem hjl, Option.map_some, Option.some.injEq] at hj
      simp [← hj, hjl])
    simpa using hl
theorem conv_nil {w : World} (a : Addr) (cap : Nat) : (convert 22 9 (.slice (some a) 0 cap)).run Tryz.prog w = .ok (.string (txB [])) w := by
  rw [run_convert_bytes_string _ 22 9 5 _ _ _ Tryz.underlying22 Tryz.underlying5 Tryz.underlying9]
  rw [run_bytesToString _ _ 0 cap [] ?_]
  · rfl
  · simpa using run_loadCells_list (P := Tryz.prog) w a [] (fun j v hj => by simp at hj)

/-- one text lies ahead of the other -/
def kLt (a b : ByteArray) : Prop := Op.bytesLess a.toList b.toList = true
theorem bless_irr : ∀ l : List UInt8, Op.bytesLess l l = false
  | [] => rfl
  | a :: l => by simp [Op.bytesLess, bless_irr l, UInt8.lt_irrefl]
theorem bless_asym : ∀ l m : List UInt8, Op.bytesLess l m = true → Op.bytesLess m l = false
  | [], [], h => by simp [Op.bytesLess] at h
  | [], b :: m, _ => rfl
  | a :: l, [], h => by simp [Op.bytesLess] at h
  | a :: l, b :: m, h => by
    simp only [Op.bytesLess, Bool.or_eq_true, decide_eq_true_eq, Bool.and_eq_true, beq_iff_eq] at h
    simp only [Op.bytesLess, Bool.or_eq_false_iff, decide_eq_false_iff_not, Bool.and_eq_false_iff, beq_eq_false_iff_ne]
    rcases h with h | ⟨rfl, h⟩
    · exact ⟨UInt8.not_lt.2 (UInt8.le_of_lt h), .inl (UInt8.ne_of_lt h).symm⟩
    · exact ⟨UInt8.lt_irrefl _, .inr (bless_asym l m h)⟩
theorem bless_total : ∀ l m : List UInt8, Op.bytesLess l m = false → l = m ∨ Op.bytesLess m l = true
  | [], [], _ => .inl rfl
  | [], b :: m, h => by simp [Op.bytesLess] at h
  | a :: l, [], _ => .inr rfl
  | a :: l, b :: m, h => by
    simp only [Op.bytesLess, Bool.or_eq_false_iff, decide_eq_false_iff_not, Bool.and_eq_false_iff, beq_eq_false_iff_ne] at h
    obtain ⟨h1, h2⟩ := h
    by_cases e : a = b
    · subst e
      rcases bless_total l m (h2.resolve_left (fun q => q rfl)) with q | q
      · exact .inl (by rw [q])
      · exact .inr (by simp [Op.bytesLess, q])
    · refine .inr ?_
      have := UInt8.lt_of_le_of_ne (UInt8.not_lt.1 h1) (Ne.symm e)
      simp [Op.bytesLess, this]
/-- as the program asks: not (b <= a) -/
theorem kLt_leq {a b : ByteArray} (h : kLt a b) : (Op.bytesLess b.toList a.toList || b.toList == a.toList) = false := by
  rw [Bool.or_eq_false_iff]
  refine ⟨bless_asym _ _ h, beq_eq_false_iff_ne.2 fun e => ?_⟩
  unfold kLt at h
  rw [e, bless_irr] at h
  exact absurd h (by simp)

abbrev E3 := ByteArray × ByteArray × Int
abbrev e0 : E3 := (ByteArray.empty, ByteArray.empty, 0)
/-- the slice value v reads in w as the entries es -/
def NRead (w : World) (v : Value) (es : List E3) : Prop :=
  ∃ a cap, v = .slice a es.length cap ∧ (0 < es.length → ∃ b off, a = some ⟨b, off, none⟩ ∧ ∀ i, i < es.length → w.cell? ⟨b, off + i * 3, none⟩ = some (.string (es.getD i e0).1) ∧ w.cell? ⟨b, off + i * 3 + 1, none⟩ = some (.string (es.getD i e0).2.1) ∧ w.cell? ⟨b, off + i * 3 + 2, none⟩ = some (.int .i64 (es.getD i e0).2.2))
theorem NRead.below {w w' : World} {v : Value} {rs : List E3} (h : NRead w v rs) (k : Below w.heap.size w w') : NRead w' v rs := by
  obtain ⟨a, cap, hv, hc⟩ := h
  refine ⟨a, cap, hv, fun hp => ?_⟩
  obtain ⟨b, off, ha, hcell⟩ := hc hp
  refine ⟨b, off, ha, fun i hi => ?_⟩
  obtain ⟨g1, g2, g3⟩ := hcell i hi
  have hb := World.block_lt_of_cell? _ _ g1
  exact ⟨(k.cell (p := ⟨b, off + i * 3, none⟩) hb).trans g1, (k.cell (p := ⟨b, off + i * 3 + 1, none⟩) hb).trans g2, (k.cell (p := ⟨b, off + i * 3 + 2, none⟩) hb).trans g3⟩
theorem NRead.empty (w : World) (a : Option Addr) (cap : Nat) : NRead w (.slice a 0 cap) [] := ⟨a, cap, rfl, fun h => by simp at h⟩
/-- and its cells lie in a block from lo up to hi and may be written -/
def NOwn (lo hi : Nat) (w : World) (v : Value) (rs : List E3) : Prop :=
  ∃ a cap, v = .slice a rs.length cap ∧ (0 < rs.length → ∃ b off, a = some ⟨b, off, none⟩ ∧ lo ≤ b ∧ b < hi ∧ b < w.heap.size ∧ (∀ j, w.frozen? ⟨b, j, none⟩ = false) ∧ ∀ i, i < rs.length → w.cell? ⟨b, off + i * 3, none⟩ = some (.string (rs.getD i e0).1) ∧ w.cell? ⟨b, off + i * 3 + 1, none⟩ = some (.string (rs.getD i e0).2.1) ∧ w.cell? ⟨b, off + i * 3 + 2, none⟩ = some (.int .i64 (rs.getD i e0).2.2))
theorem NOwn.read {lo hi : Nat} {w : World} {v : Value} {rs : List E3} (h : NOwn lo hi w v rs) : NRead w v rs := by
  obtain ⟨a, cap, hv, hc⟩ := h
  refine ⟨a, cap, hv, fun hp => ?_⟩
  obtain ⟨b, off, ha, _, _, _, _, hcell⟩ := hc hp
  exact ⟨b, off, ha, hcell⟩
theorem NOwn.kept {lo hi : Nat} {w w' : World} {v : Value} {rs : List E3} (h : NOwn lo hi w v rs) (hs : w.heap.size ≤ w'.heap.size) (k : ∀ b, lo ≤ b → b < hi → b < w.heap.size → w'.heap[b]? = w.heap[b]?) : NOwn lo hi w' v rs := by
  obtain ⟨a, cap, hv, hc⟩ := h
  refine ⟨a, cap, hv, fun hp => ?_⟩
  obtain ⟨b, off, ha, h1, h2, h3, h4, hcell⟩ := hc hp
  have e := k b h1 h2 h3
  refine ⟨b, off, ha, h1, h2, by omega, fun j => ?_, fun i hi => ?_⟩
  · rw [World.frozen?_of_block (w := w) (w' := w') (a := ⟨b, j, none⟩) e]; exact h4 j
  · rw [World.cell?_of_block (w := w) (w' := w') (a := ⟨b, off + i * 3, none⟩) e, World.cell?_of_block (w := w) (w' := w') (a := ⟨b, off + i * 3 + 1, none⟩) e, World.cell?_of_block (w := w) (w' := w') (a := ⟨b, off + i * 3 + 2, none⟩) e]
    exact hcell i hi
theorem NOwn.below {lo hi : Nat} {w w' : World} {v : Value} {rs : List E3} (h : NOwn lo hi w v rs) (k : Below w.heap.size w w') : NOwn lo hi w' v rs :=
  h.kept k.size fun b _ _ h3 => k.block b h3
theorem NOwn.stored {lo hi : Nat} {w : World} {b off n cap : Nat} {rs : List E3} (h : NOwn lo hi w (.slice (some ⟨b, off, none⟩) n cap) rs) (j : Nat) (hj : j < n) (x y : ByteArray) (z : Int) :
    NOwn lo hi (((w.setCell ⟨b, off + j * 3, none⟩ (.string x)).setCell ⟨b, off + j * 3 + 1, none⟩ (.string y)).setCell ⟨b, off + j * 3 + 2, none⟩ (.int .i64 z)) (.slice (some ⟨b, off, none⟩) n cap) (rs.set j (x, y, z)) ∧
      Upd lo hi w (((w.setCell ⟨b, off + j * 3, none⟩ (.string x)).setCell ⟨b, off + j * 3 + 1, none⟩ (.string y)).setCell ⟨b, off + j * 3 + 2, none⟩ (.int .i64 z)) := by
  obtain ⟨a, cap', hv, hc⟩ := h
  simp only [Value.slice.injEq] at hv
  obtain ⟨rfl, rfl, rfl⟩ := hv
  obtain ⟨b', off', ha, h1, h2, h3, h4, hcell⟩ := hc (by omega)
  simp only [Option.some.injEq, Addr.mk.injEq, and_true] at ha
  obtain ⟨rfl, rfl⟩ := ha
  refine ⟨⟨_, _, by rw [List.length_set], fun _ => ⟨b, off, rfl, h1, h2, by simpa using h3, fun j => by simpa using h4 j, fun i hi => ?_⟩⟩, (((Upd.refl _ _ _).setCell (p := ⟨b, off + j * 3, none⟩) h1 h2 _).setCell (p := ⟨b, off + j * 3 + 1, none⟩) h1 h2 _).setCell (p := ⟨b, off + j * 3 + 2, none⟩) h1 h2 _⟩
  rw [List.length_set] at hi
  obtain ⟨g1, g2, g3⟩ := hcell i hi
  simp only [List.getD_eq_getElem?_getD] at g1 g2 g3 ⊢
  rw [List.getElem?_set]
  by_cases hij : j = i
  · subst hij
    rw [if_pos rfl, if_pos hi]
    have n12 : (⟨b, off + j * 3 + 1, none⟩ : Addr) ≠ ⟨b, off + j * 3, none⟩ := by simp
    have n13 : (⟨b, off + j * 3 + 2, none⟩ : Addr) ≠ ⟨b, off + j * 3, none⟩ := by simp
    have n23 : (⟨b, off + j * 3 + 2, none⟩ : Addr) ≠ ⟨b, off + j * 3 + 1, none⟩ := by simp
    refine ⟨?_, ?_, ?_⟩
    · rw [World.cell?_setCell_other _ _ _ _ n13, World.cell?_setCell_other _ _ _ _ n12, World.cell?_setCell_same _ _ _ g1]; rfl
    · rw [World.cell?_setCell_other _ _ _ _ n23, World.cell?_setCell_same _ _ _ ((World.cell?_setCell_other _ _ _ _ (Ne.symm n12)).trans g2)]; rfl
    · rw [World.cell?_setCell_same _ _ _ ((World.cell?_setCell_other _ _ _ _ (Ne.symm n23)).trans ((World.cell?_setCell_other _ _ _ _ (Ne.symm n13)).trans g3))]; rfl
  · rw [if_neg hij]
    have hn : ∀ p q, p < 3 → q < 3 → (⟨b, off + i * 3 + p, none⟩ : Addr) ≠ ⟨b, off + j * 3 + q, none⟩ := fun p q hp hq hh => by simp only [Addr.mk.injEq] at hh; omega
    have m1 := hn 0 0 (by omega) (by omega); have m2 := hn 0 1 (by omega) (by omega); have m3 := hn 0 2 (by omega) (by omega)
    have m4 := hn 1 0 (by omega) (by omega); have m5 := hn 1 1 (by omega) (by omega); have m6 := hn 1 2 (by omega) (by omega)
    have m7 := hn 2 0 (by omega) (by omega); have m8 := hn 2 1 (by omega) (by omega); have m9 := hn 2 2 (by omega) (by omega)
    simp only [Nat.add_zero] at m1 m2 m3 m4 m7
    refine ⟨?_, ?_, ?_⟩
    · rw [World.cell?_setCell_other _ _ _ _ (Ne.symm m3), World.cell?_setCell_other _ _ _ _ (Ne.symm m2), World.cell?_setCell_other _ _ _ _ (Ne.symm m1), g1]
    · rw [World.cell?_setCell_other _ _ _ _ (Ne.symm m6), World.cell?_setCell_other _ _ _ _ (Ne.symm m5), World.cell?_setCell_other _ _ _ _ (Ne.symm m4), g2]
    · rw [World.cell?_setCell_other _ _ _ _ (Ne.symm m9), World.cell?_setCell_other _ _ _ _ (Ne.symm m8), World.cell?_setCell_other _ _ _ _ (Ne.symm m7), g3]

theorem infoEntry : (Tryz.prog.info? 52).map (fun i => (i.zero, i.size, i.bytes)) = some (some (.agg #[.string ByteArray.empty, .string ByteArray.empty, .int .i64 0]), 3, 40) := by kernel_rfl
/-- the first k entries laid, then empty ones -/
def enP (rs : List E3) (k : Nat) : List E3 := rs.take k ++ List.replicate (rs.length - k) e0
theorem enP_length (rs : List E3) (k : Nat) (h : k ≤ rs.length) : (enP rs k).length = rs.length := by simp [enP]; omega
theorem enP_zero (rs : List E3) : enP rs 0 = List.replicate rs.length e0 := by simp [enP]
theorem enP_end (rs : List E3) : enP rs rs.length = rs := by simp [enP]
theorem enP_step (rs : List E3) (k : Nat) (h : k < rs.length) : (enP rs k).set k (rs.getD k e0) = enP rs (k + 1) := by
  unfold enP
  have hl : (rs.take k).length = k := by simp; omega
  rw [List.set_append_right _ _ (by omega), hl, Nat.sub_self, show rs.length - k = (rs.length - (k + 1)) + 1 by omega, List.replicate_succ, List.set_cons_zero, List.take_succ_eq_append_getElem h]
  simp only [List.getD_eq_getElem?_getD, List.getElem?_eq_getElem h, Option.getD_some, List.append_assoc, List.cons_append, List.nil_append]
theorem madeEntries (n : Nat) (hn : n ≤ 1048576) (w : World) : ∃ cur, (Instr.makeSlice 23 (.int .i64 (n : Int)) (.int .i64 (n : Int))).run Tryz.prog w = .ok (.slice (some ⟨w.heap.size, 0, none⟩) n n) (w.alloc (.cells cur 52)) ∧
    NOwn w.heap.size (w.heap.size + 1) (w.alloc (.cells cur 52)) (.slice (some ⟨w.heap.size, 0, none⟩) n n) (List.replicate n e0) := by
  obtain ⟨i, hi, hzz⟩ := Option.map_eq_some_iff.1 infoEntry
  simp only [Prod.mk.injEq] at hzz
  obtain ⟨hz, hs, hby⟩ := hzz
  have hr := run_make (P := Tryz.prog) w 23 52 i _ Tryz.underlying23 hi hz .i64 .i64 n n (by omega) (Int.le_refl _) (by rw [hby]; omega) (by omega)
  simp only [Int.toNat_natCast, hs] at hr
  refine ⟨_, hr, ?_⟩
  refine ⟨_, n, by simp, fun hp => ⟨w.heap.size, 0, rfl, Nat.le_refl _, Nat.lt_succ_self _, by simp, fun j => World.frozen?_alloc_at _ _ _ _ rfl, fun i hi => ?_⟩⟩
  simp only [List.length_replicate] at hi
  rw [Nat.zero_add, World.cell?_alloc_at _ _ _ _ rfl, World.cell?_alloc_at _ _ _ _ rfl, World.cell?_alloc_at _ _ _ _ rfl]
  have e : (List.replicate n e0).getD i e0 = e0 := by simp [hi]
  rw [e]
  have m0 : i * 3 < n * 3 := by omega
  have m1 : i * 3 + 1 < n * 3 := by omega
  have m2 : i * 3 + 2 < n * 3 := by omega
  have q1 : (i * 3 + 1) % 3 = 1 := by omega
  have q2 : (i * 3 + 2) % 3 = 2 := by omega
  simp [madeCells, Value.cells, m0, m1, m2, q1, q2]
end Go.Proofs.YtfbjagjgofdheaaGreatDoor

namespace Go.Proofs.YtfbjagjgofdheaaGreatDoor
open Go.RowKit
set_option linter.unusedVariables false

/-- bytes laid into a list -/
def ovr (zs : List Int) (off : Nat) (bs : List Int) : List Int := zs.take off ++ bs ++ zs.drop (off + bs.length)
theorem ovr_length (zs : List Int) (off : Nat) (bs : List Int) (h : off + bs.length ≤ zs.length) : (ovr zs off bs).length = zs.length := by simp [ovr]; omega
theorem ovr_cons (zs : List Int) (off : Nat) (x : Int) (bs : List Int) (h : off < zs.length) : ovr zs off (x :: bs) = ovr (zs.set off x) (off + 1) bs := by
  unfold ovr
  rw [List.take_add_one, List.length_cons]
  have h1 : (zs.set off x)[off]? = some x := by simp [h]
  have h2 : (zs.set off x).take off = zs.take off := by simp [List.take_set_of_le]
  have h3 : (zs.set off x).drop (off + 1 + bs.length) = zs.drop (off + (bs.length + 1)) := by
    rw [List.drop_set_of_lt (by omega), show off + 1 + bs.length = off + (bs.length + 1) by omega]
  rw [h1, h2, h3]
  simp
theorem ovr_nil (zs : List Int) (off : Nat) : ovr zs off [] = zs := by simp [ovr]
theorem Arr.cells {b : Nat} : ∀ (bs : List Int) (w : World) (zs : List Int) (off : Nat), Arr w b zs → (∀ x ∈ bs, 0 ≤ x ∧ x < 256) → off + bs.length ≤ 128 →
    Arr (w.setCells b off (bs.map (Value.int .u8))) b (ovr zs off bs) ∧ Upd b (b + 1) w (w.setCells b off (bs.map (Value.int .u8)))
  | [], w, zs, off, h, _, _ => ⟨by rw [ovr_nil]; exact h, Upd.refl _ _ _⟩
  | x :: bs, w, zs, off, h, hb, ho => by
    simp only [List.length_cons] at ho
    have hs := h.stored (j := off) (by omega) x (hb x (by simp))
    have ih := Arr.cells bs _ _ (off + 1) hs.1 (fun y hy => hb y (by simp [hy])) (by omega)
    rw [ovr_cons zs off x bs (by rw [h.1]; omega)]
    exact ⟨ih.1, hs.2.trans ih.2⟩
/-- a text laid into a list: its length, its bytes -/
def putT (zs : List Int) (off : Nat) (s : ByteArray) : List Int := ovr (zs.set off s.size) (off + 1) (sb s)
theorem sb_mem (s : ByteArray) : ∀ x ∈ sb s, 0 ≤ x ∧ x < 256 := fun x hx => by
  obtain ⟨y, _, rfl⟩ := List.mem_map.1 hx
  have := y.toNat_lt
  omega

set_option maxRecDepth 100000 in
set_option maxHeartbeats 1000000 in
theorem putText_any (b off n cap : Nat) (s : ByteArray) (zs : List Int) (w : World) (h : Arr w b zs) (ho : off + n ≤ 128) (hs : s.size + 1 ≤ n) (hn : 2 ≤ n) (hc : n ≤ cap) :
    Calls Tryz.prog 96 #[.slice (some ⟨b, off, none⟩) n cap, .string s] w fun e w' => e = .returned (.tuple #[]) ∧ Arr w' b (putT zs off s) ∧ Upd b (b + 1) w w' := by
  obtain ⟨c1, c2⟩ := h.at (j := off) (by omega)
  have hst := h.stored (j := off) (by omega) s.size (by omega)
  have hA := Arr.cells (sb s) _ _ (off + 1) hst.1 (sb_mem s) (by rw [sb_length]; omega)
  have HA : Hid _ := hA
  have HU : Hid _ := hst.2
  have hcp : ∀ ty, (Builtin.copy_ #[22, 9] ty #[.slice (some ⟨b, off + 1, none⟩) (n - 1) (cap - 1), .string s]).run Tryz.prog (w.setCell ⟨b, off, none⟩ (.int .u8 s.size)) = .ok (goInt s.size) ((w.setCell ⟨b, off, none⟩ (.int .u8 s.size)).setCells b (off + 1) ((sb s).map (Value.int .u8))) := fun ty => by
    have hsz : ∀ w, (Go.sizeOf 5).run Tryz.prog w = .ok 1 w := fun w => by simp [go_sem]
    have := run_copy_string (P := Tryz.prog) (w.setCell ⟨b, off, none⟩ (.int .u8 s.size)) 22 9 ty 5 b (off + 1) (n - 1) (cap - 1) s Tryz.underlying22 hsz (by omega) (fun j hj => by rw [(hst.1.at (j := off + 1 + j) (by omega)).1]; rfl) (fun j hj => (hst.1.at (j := off + 1 + j) (by omega)).2)
    rw [this, sb, List.map_map]
    rfl
  have h1 : (1 : Int) ≤ (n : Int) := by omega
  have hw : IntKind.u8.wrap (s.size : Int) = (s.size : Int) := IntWalk.u8_in _ ⟨by omega, by omega⟩
  have hc1 : ¬ cap = 1 := by omega
  clear hst hA h
  go_enter Tryz.func96, Tryz.ntmps96
  go_wp2
  exact bodyPost_end (v := .tuple #[]) (by simp [results, Tryz.results96, go_sem]) rfl ⟨rfl, HA.out.1, HU.out.trans HA.out.2⟩

/-- a text out of a block's bytes -/
def cutT (zs : List Int) (off : Nat) : ByteArray := txB ((zs.drop (off + 1)).take (zs.getD off 0).toNat)
theorem bts_part {W : World} {g : Nat} {t : TypeId} {zs : List Int} (h : W.heap[g]? = some (.cells (u8s zs) t (0, 0))) (hz : Byt zs) (off n c : Nat) (ho : off + n ≤ zs.length) : Bts W (.slice (some ⟨g, off, none⟩) n c) ((zs.drop off).take n) := by
  have hl : ((zs.drop off).take n).length = n := by simp; omega
  have hg : ∀ i, i < n → ((zs.drop off).take n).getD i 0 = zs.getD (off + i) 0 := fun i hi => by
    simp [hi, List.getElem?_drop]
  refine ⟨fun i => ?_, some ⟨g, off, none⟩, c, by rw [hl], fun _ => ⟨g, off, rfl, fun i hi => ?_⟩⟩
  · by_cases hi : i < n
    · rw [hg i hi]; exact hz _
    · rw [List.getD_eq_getElem?_getD, List.getElem?_eq_none (by omega)]; simp
  · rw [hl] at hi
    rw [hg i hi, cell_of_row W g (off + i) _ t _ h]
    simp [u8s, show off + i < zs.length by omega]

set_option maxRecDepth 100000 in
set_option maxHeartbeats 1000000 in
theorem getText_row {W : World} {g : Nat} {t : TypeId} {zs : List Int} (hz : Byt zs) (h : W.heap[g]? = some (.cells (u8s zs) t (0, 0))) (off n c : Nat) (ho : off + n ≤ zs.length) (hn : 2 ≤ n) (hc : n ≤ c) (hlt : zs.getD off 0 < n) :
    Calls Tryz.prog 71 #[.slice (some ⟨g, off, none⟩) n c] W fun e w' => e = .returned (.tuple #[.string (cutT zs off), .bool true]) ∧ W = w' := by
  obtain ⟨q1, q2⟩ := hz off
  obtain ⟨m, hm⟩ : ∃ m : Nat, zs.getD off 0 = m := ⟨(zs.getD off 0).toNat, by omega⟩
  have c0 : W.cell? ⟨g, off, none⟩ = some (.int .u8 m) := by
    rw [cell_of_row W g off _ t _ h]
    simp only [u8s, List.getD_eq_getElem?_getD, show off < zs.length by omega, List.getElem?_eq_getElem, Option.getD_some] at hm ⊢
    simp [← hm, show off < zs.length by omega]
  rw [hm] at hlt q2
  have hcv : (convert 22 9 (.slice (some ⟨g, off + 1, none⟩) m (c - 1))).run Tryz.prog W = .ok (.string (cutT zs off)) W := by
    unfold cutT
    rw [hm]
    by_cases h0 : m = 0
    · subst h0
      simpa using conv_nil (w := W) ⟨g, off + 1, none⟩ (c - 1)
    · exact conv_any (bts_part h hz (off + 1) m (c - 1) (by omega)) (by omega)
  have w1 : IntKind.i64.wrap (m : Int) = m := IntWalk.i64_in _ ⟨by omega, by omega⟩
  have w2 : IntKind.i64.wrap (1 + (m : Int)) = ((m + 1 : Nat) : Int) := (IntWalk.i64_in _ ⟨by omega, by omega⟩).trans (by omega)
  have k1 : ¬ (m : Int) ≥ (n : Int) := by omega
  have k2 : (1 : Int) ≤ ((m + 1 : Nat) : Int) := by omega
  have k3 : ((m + 1 : Nat) : Int) ≤ (c : Int) := by omega
  have k4 : ¬ c = 1 := by omega
  clear h hz hm
  generalize cutT zs off = tx at *
  go_enter Tryz.func71, Tryz.ntmps71
  go_wp2
  exact bodyPost_ret (v := .tuple #[.string tx, .bool true]) (by simp [results, Tryz.results71, go_sem]) rfl ⟨rfl, rfl⟩
end Go.Proofs.YtfbjagjgofdheaaGreatDoor
