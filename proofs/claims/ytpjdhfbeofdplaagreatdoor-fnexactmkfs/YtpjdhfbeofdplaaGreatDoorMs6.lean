import Derived.Test.YtpjdhfbeofdplaaGreatDoorMs4
import Derived.Test.YtpjdhfbeofdplaaGreatDoorRg
namespace Go.Proofs.YtpjdhfbeofdplaaGreatDoor
open Go.RowKit

theorem wp_appendT {o : Oper} {a : Act} {w : World} {K : Act → World → Prop} {Q : Exit → Act → World → Prop} (s x : Operand) (st e : TypeId) (z : Value) (size bytes : Nat)
    (hu : Tryz.prog.underlying st = some (.slice e)) (hinfo : (Tryz.prog.info? e).map (fun i => (i.zero, i.size, i.bytes)) = some (some z, size, bytes)) (hzs : z.cells.size = size) (hsz : 0 < size)
    (ho : o.op = .call { callee := .builtin .append, args := #[s, x], argTypes := #[st, st] })
    {base : Nat} {v : Value} {n : Nat} {cs : List Value} (hown : w.ownsRow base e size v n cs) (hs : a.eval s = v) (ad : Addr) (m c : Nat) (hx : a.eval x = .slice (some ad) m c) (news : List Value) (hl : news.length = m * size)
    (hnews : ∀ j u, news[j]? = some u → w.cell? (ad.add j) = some u) (h1 : ∀ u ∈ news, u.oneCell' = true) (hlen : n + m ≤ 100000) (hby : bytes ≤ 1000) (hb : base ≤ w.heap.size)
    (h : ∀ v' w', w'.ownsRow base e size v' (n + m) (cs ++ news) → NoT e w w' → Below base w w' → K (a.put o.dst v') w') : o.wp Tryz.prog a w K Q := by
  obtain ⟨i0, hi, hzz⟩ := Option.map_eq_some_iff.1 hinfo
  simp only [Prod.mk.injEq] at hzz
  obtain ⟨hz0, hz1, hz2⟩ := hzz
  have hbb : (n + m) * bytes ≤ 140737488355328 := Nat.le_trans (Nat.mul_le_mul hlen hby) (by omega)
  refine wp_append_own _ s x st ho base e i0 z size bytes hu hi hz0 hz1 hz2 hzs hsz v n cs hs hown ad m c news hx hl hnews h1 (by unfold maxLen; omega) hbb hb ?_
  intro v' w' h2 h3 _
  refine h v' w' h2 ⟨h3.size, fun g hg hn => h3.block g hg fun e1 => ?_⟩ ((Below.refl base w).grown h3 hb fun k hk => ?_)
  · rcases hown.2 with ⟨hv, _⟩ | ⟨g', cap, cur, hv, _, hg', _⟩
    · rw [hv] at e1; cases e1
    · rw [hv] at e1
      simp only [Value.ownBlock, Option.some.injEq] at e1
      subst e1
      exact hn _ _ hg'
  · exact (World.ownsRow.lt hown k hk).1

theorem infoRn : (Tryz.prog.info? 57).map (fun i => (i.zero, i.size, i.bytes)) = some (some (.agg #[.int .i64 0, .int .i64 0, .int .i64 0]), 3, 24) := by kernel_rfl
theorem StR.lit (base : Nat) (w : World) (hb : base ≤ w.heap.size) (g : Nat) (hg : g = w.heap.size) : StR base (w.alloc (.cells #[] 50)) (.slice (some ⟨g, 0, Option.none⟩) 0 0) 0 [] := by
  subst hg; exact World.ownsRow_lit (e := 50) (size := 3) w #[] 0 hb (by decide) rfl
theorem StR.shape {base : Nat} {w : World} {v : Value} {n : Nat} {cs : List Value} (h : StR base w v n cs) : ∃ a c, v = .slice a n c := by
  rcases h.2 with ⟨hv, hn⟩ | ⟨g, cap, cur, hv, _⟩
  · exact ⟨Option.none, 0, by rw [hv, hn]⟩
  · exact ⟨_, _, hv⟩
theorem tb1_ok : tbOK 0 run1 := by
  refine ⟨.inl rfl, by decide, ?_, fun i hi => ?_⟩
  · intro i hi
    obtain rfl : i = 0 := by simp at hi; omega
    exact ⟨by simp [inR], fun h => by omega⟩
  · obtain rfl : i = 0 := by simp at hi; omega
    simp

theorem Row8.noSt {base : Nat} {w w' : World} {v : Value} {zs : List Int} (h : Row8 base w v zs) (k : NoSt w w') : Row8 base w' v zs := by
  refine ⟨h.1, ?_⟩
  rcases h.2 with hv | ⟨g, cap, cur, hv, h1, h2, h3⟩
  · exact .inl hv
  · exact .inr ⟨g, cap, cur, hv, h1, k.cells h2 (by decide), h3⟩

/-- what the chain is told -/
structure ChS (w : World) (tb rb : Nat) : Prop where
  t0 : w.cell? ⟨tb, 0, none⟩ = some (.int .i64 3)
  r0 : w.cell? ⟨rb, 0, none⟩ = some (.int .i64 2)
  r1 : w.cell? ⟨rb, 1, none⟩ = some (.int .i64 2)
  r2 : w.cell? ⟨rb, 2, none⟩ = some (.int .i64 1)
theorem ChS.below {w w' : World} {tb rb : Nat} (h : ChS w tb rb) (k : Below w.heap.size w w') : ChS w' tb rb :=
  ⟨(k.cell (p := ⟨tb, 0, none⟩) (World.block_lt_of_cell? _ _ h.t0)).trans h.t0, (k.cell (p := ⟨rb, 0, none⟩) (World.block_lt_of_cell? _ _ h.r0)).trans h.r0, (k.cell (p := ⟨rb, 1, none⟩) (World.block_lt_of_cell? _ _ h.r1)).trans h.r1, (k.cell (p := ⟨rb, 2, none⟩) (World.block_lt_of_cell? _ _ h.r2)).trans h.r2⟩

/-- the chain's answer: one step, a write of the table block -/
structure ChA (base : Nat) (w : World) (v ud : Value) : Prop where
  row : StR base w v 1 [.int .i64 1, .int .i64 3, ud]
  dat : Row8 base w ud (slL (layP 0 run1 1))

set_option maxRecDepth 100000 in
set_option maxHeartbeats 4000000 in
theorem l5Chain_any (tb tc rb rc : Nat) (w : World) (hc : ChS w tb rb) : Calls Tryz.prog 21 #[.slice (some ⟨tb, 0, none⟩) 1 tc, .slice (some ⟨rb, 0, none⟩) 1 rc] w fun e w' => ∃ v ud, e = .returned v ∧ ChA w.heap.size w' v ud ∧ Below w.heap.size w w' := by
  have HC : Hid (∀ W, Below w.heap.size w W → ChS W tb rb) := fun W h => hc.below h
  have hbl := World.block_lt_of_cell? _ _ hc.r0
  obtain ⟨W0, HW0⟩ : ∃ W0, Hid (W0 = w.alloc (.cells #[] 50)) := ⟨_, rfl⟩
  have hb0 : Below w.heap.size w W0 := by rw [HW0.out]; exact belowA _ _
  have hS0 : StR w.heap.size W0 (.slice (some ⟨w.heap.size, 0, none⟩) 0 0) 0 [] := by rw [HW0.out]; exact StR.lit _ _ (Nat.le_refl _) _ rfl
  clear hc
  go_enter Tryz.func21, Tryz.ntmps21
  go_upto_region 2 with fail
  rw [← HW0.out]
  clear HW0
  go_wp2_with fail
  go_loopw [5, 6, 7, 8, 9, 10] (fun v5 i x7 x8 x9 x10 wr => Below w.heap.size w wr ∧ ((i = .int .i64 0 ∧ StR w.heap.size wr v5 0 []) ∨ (i = .int .i64 1 ∧ ∃ ud, ChA w.heap.size wr v5 ud))) (fun _ i _ _ _ _ _ => 1 - (intOf i).toNat)
  case atStart => exact ⟨hb0, .inl ⟨rfl, hS0⟩⟩
  case round =>
    obtain ⟨hb, ⟨rfl, hS⟩ | ⟨rfl, ud, hA⟩⟩ := hrel
    · obtain ⟨va, vc, rfl⟩ := hS.shape
      obtain ⟨X, hX⟩ : ∃ X, Hid (wr.heap.size = X) := ⟨_, rfl⟩
      obtain ⟨W1, HW1⟩ : ∃ W1, Hid (W1 = wr.alloc (.cells #[.int .i64 0, .slice none 0 0] 84)) := ⟨_, rfl⟩
      have hb1 : Below X wr W1 := by rw [HW1.out, ← hX.out]; exact belowA _ _
      have hX1 : W1.heap[X]? = some (.cells #[.int .i64 0, .slice none 0 0] 84 (0, 0)) := by rw [HW1.out, ← hX.out]; exact heap_alloc_new _ _
      go_upto_region 6 with fail
      rw [← HW1.out, hX.out]
      obtain ⟨w2, rfl⟩ : ∃ w2, w2 = wr := ⟨wr, rfl⟩
      go_wp2_with fail
      have hsw := hb.size
      have hXw : w.heap.size ≤ X := by rw [← hX.out]; exact hsw
      go_loopw [8] (fun k wr => Below X w2 wr ∧ X < wr.heap.size ∧ ((k = .int .i64 0 ∧ wr.heap[X]? = some (.cells #[.int .i64 0, .slice none 0 0] 84 (0, 0))) ∨ (k = .int .i64 1 ∧ ∃ ra sc, wr.heap[X]? = some (.cells #[.int .i64 0, .slice ra 1 sc] 84 (0, 0)) ∧ RRow (X + 1) wr (.slice ra 1 sc) run1))) (fun k _ => 1 - (intOf k).toNat)
      case atStart => exact ⟨hb1, (Array.getElem?_eq_some_iff.1 hX1).1, .inl ⟨rfl, hX1⟩⟩
      case round =>
        obtain ⟨hb2, hlt, ⟨rfl, hXr⟩ | ⟨rfl, ra, sc, hXr, hR⟩⟩ := hrel
        · go_wp2_with fail
          have hbw : Below w.heap.size w wr := hb.trans (hb2.mono hXw)
          obtain ⟨c0, c1, c2, c3⟩ := HC.out wr hbw
          have x1 : wr.cell? ⟨X, 1, none⟩ = some (.slice none 0 0) := by simp [World.cell?, hXr]
          refine wp_region_E (fun w' => w'.cell? ⟨X, 1, none⟩ = some (.slice none 0 0) ∧ w'.cell? ⟨rb, 0, none⟩ = some (.int .i64 2) ∧ w'.cell? ⟨rb, 1, none⟩ = some (.int .i64 2) ∧ w'.cell? ⟨rb, 2, none⟩ = some (.int .i64 1)) 9 (by kernel_rfl) ?_
          have hq0 : (fun w' => w'.cell? ⟨X, 1, none⟩ = some (.slice none 0 0) ∧ w'.cell? ⟨rb, 0, none⟩ = some (.int .i64 2) ∧ w'.cell? ⟨rb, 1, none⟩ = some (.int .i64 2) ∧ w'.cell? ⟨rb, 2, none⟩ = some (.int .i64 1)) wr.drew := ⟨x1, c1, c2, c3⟩
          refine wpAnyE_take (i := 0) 45 (.pointer (some ⟨X, 1, none⟩)) (by kernel_rfl) rfl (by kernel_rfl) (by kernel_rfl) (by kernel_rfl) (fun _ _ _ h => h) rfl rfl hq0 (fun w' hw => by obtain ⟨m0, m1, m2, m3⟩ := hw; go_simp) ?_
          simp only [Act.put, List.setIfInBounds_toArray, List.set_cons_zero, List.set_cons_succ]
          refine wpAnyE_take (i := 1) 46 (.slice none 0 0) (by kernel_rfl) rfl (by kernel_rfl) (by kernel_rfl) (by kernel_rfl) (fun _ _ _ h => h) rfl rfl hq0 (fun w' hw => by obtain ⟨m0, m1, m2, m3⟩ := hw; go_simp) ?_
          simp only [Act.put, List.setIfInBounds_toArray, List.set_cons_zero, List.set_cons_succ]
          refine wpAnyE_take (i := 2) 47 (.slice (some ⟨rb, 0, none⟩) 1 rc) (by kernel_rfl) rfl (by kernel_rfl) (by kernel_rfl) (by kernel_rfl) (fun _ _ _ h => h) rfl rfl hq0 (fun w' hw => by obtain ⟨m0, m1, m2, m3⟩ := hw; go_simp) ?_
          simp only [Act.put, List.setIfInBounds_toArray, List.set_cons_zero, List.set_cons_succ]
          refine wpAnyE_take (i := 3) 48 (.int .i64 0) (by kernel_rfl) rfl (by kernel_rfl) (by kernel_rfl) (by kernel_rfl) (fun _ _ _ h => h) rfl rfl hq0 (fun w' hw => by obtain ⟨m0, m1, m2, m3⟩ := hw; go_simp) ?_
          simp only [Act.put, List.setIfInBounds_toArray, List.set_cons_zero, List.set_cons_succ]
          refine wpAnyE_take (i := 4) 49 (.pointer (some ⟨rb, 0, none⟩)) (by kernel_rfl) rfl (by kernel_rfl) (by kernel_rfl) (by kernel_rfl) (fun _ _ _ h => h) rfl rfl hq0 (fun w' hw => by obtain ⟨m0, m1, m2, m3⟩ := hw; go_simp) ?_
          simp only [Act.put, List.setIfInBounds_toArray, List.set_cons_zero, List.set_cons_succ]
          refine wpAnyE_take (i := 5) 50 (.agg #[.int .i64 2, .int .i64 2, .int .i64 1]) (by kernel_rfl) rfl (by kernel_rfl) (by kernel_rfl) (by kernel_rfl) (fun _ _ _ h => h) rfl rfl hq0 (fun w' hw => by obtain ⟨m0, m1, m2, m3⟩ := hw; go_simp) ?_
          simp only [Act.put, List.setIfInBounds_toArray, List.set_cons_zero, List.set_cons_succ]
          refine wpAnyE_one (i := 6) (by kernel_rfl) rfl rfl (fun K2 hK2 => ?_)
          go_simp
          obtain ⟨Wb, HWb⟩ : ∃ Wb, Hid (Wb = (wr.alloc (.cells #[.int .i64 2, .int .i64 2, .int .i64 1] 57)).drew) := ⟨_, rfl⟩
          have hbb : Below wr.heap.size wr Wb := by rw [HWb.out]; exact (belowA _ _).drew
          have hnw : Wb.heap[wr.heap.size]? = some (.cells #[.int .i64 2, .int .i64 2, .int .i64 1] 57 (0, 0)) := by rw [HWb.out]; exact heap_alloc_new _ _
          have hXb := (hbb.block X hlt).trans hXr
          have hbwb : Below w.heap.size w Wb := hbw.trans (hbb.mono hbw.size)
          rw [← HWb.out]
          clear HWb
          have hq1 : (fun w' => w'.cell? ⟨X, 1, none⟩ = some (.slice none 0 0) ∧ w'.cell? ⟨rb, 0, none⟩ = some (.int .i64 2) ∧ w'.cell? ⟨rb, 1, none⟩ = some (.int .i64 2) ∧ w'.cell? ⟨rb, 2, none⟩ = some (.int .i64 1)) Wb := ⟨by simp [World.cell?, hXb], (HC.out Wb hbwb).r0, (HC.out Wb hbwb).r1, (HC.out Wb hbwb).r2⟩
          refine hK2 _ _ (fun _ => hq1) ?_
          clear hK2 K2
          refine wpAnyE_one (i := 7) (by kernel_rfl) rfl rfl (fun K2 hK2 => ?_)
          have hlb : X + 1 ≤ Wb.heap.size := Nat.le_trans hlt hbb.size
          refine wp_appendT _ _ 58 57 _ 3 24 Tryz.underlying58 infoRn rfl (by decide) rfl (base := X + 1) (World.ownsRow_nil _ _ _ _) rfl ⟨wr.heap.size, 0, none⟩ 1 1 rfl [.int .i64 2, .int .i64 2, .int .i64 1] rfl ?_ (fun u hm => List.all_eq_true.1 (show ([.int .i64 2, .int .i64 2, .int .i64 1] : List Value).all (·.oneCell') = true from rfl) u hm) (by omega) (by omega) hlb ?_
          · intro j u hj
            rw [Addr.add_mid, Nat.zero_add]
            simpa [World.cell?, hnw] using hj
          intro v' w3 hown3 hns3 hbl3
          have hR3 : RRow (X + 1) w3 v' run1 := hown3
          obtain ⟨ya, yc, hy⟩ := hR3.shape
          have hy' : v' = .slice ya 1 yc := hy
          subst hy'
          clear hown3 hy
          show K2 (Act.put _ (some 52) _) w3
          have hX3 := hns3.cells hXb (by decide)
          have hbw3 : Below w.heap.size w w3 := hbwb.trans (hbl3.mono (by omega))
          have hq3 : (fun w' => w'.cell? ⟨X, 1, none⟩ = some (.slice none 0 0) ∧ w'.cell? ⟨rb, 0, none⟩ = some (.int .i64 2) ∧ w'.cell? ⟨rb, 1, none⟩ = some (.int .i64 2) ∧ w'.cell? ⟨rb, 2, none⟩ = some (.int .i64 1)) w3 := ⟨by simp [World.cell?, hX3], (HC.out w3 hbw3).r0, (HC.out w3 hbw3).r1, (HC.out w3 hbw3).r2⟩
          refine hK2 _ _ (fun _ => hq3) ?_
          clear hK2 K2
          simp only [Act.put, List.setIfInBounds_toArray, List.set_cons_zero, List.set_cons_succ]
          refine wpAnyE_take (i := 8) 53 (.pointer (some ⟨X, 1, none⟩)) (by kernel_rfl) rfl (by kernel_rfl) (by kernel_rfl) (by kernel_rfl) (fun _ _ _ h => h) rfl rfl hq3 (fun w' hw => by obtain ⟨m0, m1, m2, m3⟩ := hw; go_simp) ?_
          simp only [Act.put, List.setIfInBounds_toArray, List.set_cons_zero, List.set_cons_succ]
          have y1 : w3.cell? ⟨X, 1, none⟩ = some (.slice none 0 0) := hq3.1
          have yf : w3.frozen? ⟨X, 1, none⟩ = false := frozen_of_row w3 X _ _ _ hX3
          refine wpAnyE_one (i := 9) (by kernel_rfl) rfl rfl (fun K2 hK2 => ?_)
          go_simp
          refine hK2 _ _ (fun hne => absurd rfl hne) ?_
          clear hK2 K2
          refine wpAnyE_done (by kernel_rfl) ?_ _
          have hX4 : (w3.setCell ⟨X, 1, none⟩ (.slice ya 1 yc)).heap[X]? = some (.cells #[.int .i64 0, .slice ya 1 yc] 84 (0, 0)) := by simpa using heap_setCell_same w3 X 1 _ _ (.slice ya 1 yc) hX3
          have hR4 : RRow (X + 1) (w3.setCell ⟨X, 1, none⟩ (.slice ya 1 yc)) (.slice ya 1 yc) run1 := by
            refine ⟨hR3.1, ?_⟩
            rcases hR3.2 with hv | ⟨g, cap, cur, hv, e1, e2, e3⟩
            · exact .inl hv
            · exact .inr ⟨g, cap, cur, hv, e1, (Below.heap_setCell _ ⟨X, 1, none⟩ _ g (by show g ≠ X; omega)).trans e2, e3⟩
          have hb4 : Below X w2 (w3.setCell ⟨X, 1, none⟩ (.slice ya 1 yc)) := ((hb2.trans (hbb.mono (Nat.le_of_lt hlt))).trans (hbl3.mono (Nat.le_succ X))).setCell (p := ⟨X, 1, none⟩) (Nat.le_refl _) _
          have hl4 : X < (w3.setCell ⟨X, 1, none⟩ (.slice ya 1 yc)).heap.size := (Array.getElem?_eq_some_iff.1 hX4).1
          clear y1 yf hq3 hq1 hq0 hR3 hX3 x1 c0 c1 c2 c3
          go_wp2
          go_roundw
          case rel => exact ⟨hb4, hl4, .inr ⟨by go_num, ya, yc, hX4, hR4⟩⟩
          case measure => simp [intOf]
        · have hbw : Below w.heap.size w wr := hb.trans (hb2.mono hXw)
          have x0 : wr.cell? ⟨X, 0, none⟩ = some (.int .i64 0) := by simp [World.cell?, hXr]
          have x1 : wr.cell? ⟨X, 1, none⟩ = some (.slice ra 1 sc) := by simp [World.cell?, hXr]
          go_wp2_with fail
          refine (specEncT_yes 0 ra sc run1 _ hR.own.read tb1_ok).mono ?_
          rintro e w3 ⟨u, rfl, hD, hb3⟩
          rw [← run1_seal] at hD
          have hD' : Row8 wr.heap.size w3 u (slL (layP 0 run1 1)) := hD
          obtain ⟨ua, uc, hu⟩ := hD'.shape
          rw [slL_length (layP_length 0 run1 1 (by omega))] at hu
          subst hu
          have hbw3 : Below w.heap.size w w3 := hbw.trans (hb3.mono hbw.size)
          have t0 := (HC.out w3 hbw3).t0
          have hS2 : StR w.heap.size w3 (.slice va 0 vc) 0 [] := (hS.below (by rw [hX.out]; exact hb2)).below hb3
          have hsz3 := hbw3.size
          have hD3 : Row8 w.heap.size w3 (.slice ua 128 uc) (slL (layP 0 run1 1)) := hD'.lower hbw.size
          clear hD hD' x0 x1
          go_wp2_with (first | (at_builtin; refine wpList_appendSt1 rfl _ _ rfl (.int .i64 1) (.int .i64 3) (.slice ua 128 uc) rfl hS2 rfl rfl (by omega) hsz3 ?_; intro v' w4 hrow4 hns4 hbl4; obtain ⟨za, zc, hz⟩ := StR.shape hrow4; subst hz))
          have hA4 : ChA w.heap.size w4 (.slice za 1 zc) (.slice ua 128 uc) := ⟨hrow4, hD3.noSt hns4⟩
          have hb4 : Below w.heap.size w w4 := hbw3.trans hbl4
          go_roundw
          case rel => exact ⟨hb4, .inr ⟨by go_num, _, hA4⟩⟩
          case measure => simp [intOf]
    · obtain ⟨va, vc, rfl⟩ := hA.row.shape
      go_wp2_with fail
      go_ret
      exact ⟨_, ud, rfl, hA, hb⟩

end Go.Proofs.YtpjdhfbeofdplaaGreatDoor
