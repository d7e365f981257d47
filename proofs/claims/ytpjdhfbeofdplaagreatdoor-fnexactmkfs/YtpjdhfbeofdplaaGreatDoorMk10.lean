import Derived.Test.YtpjdhfbeofdplaaGreatDoorMk9
namespace Go.Proofs.YtpjdhfbeofdplaaGreatDoor
open Go.RowKit

/-- a block of zeros -/
def z128 : List Int := List.replicate 128 0
theorem z128_length : z128.length = 128 := by simp [z128]
theorem z128_byt : Byt z128 := Byt.zeros 128
theorem mk128 (w : World) : (Instr.makeSlice 22 (.int .i64 128) (.int .i64 128)).run Tryz.prog w = .ok (.slice (some ⟨w.heap.size, 0, none⟩) 128 128) (w.alloc (.cells (u8s z128) 5)) := by
  have h := run_make_row' (P := Tryz.prog) 22 5 (.int .u8 0) 1 Tryz.underlying22 info8 rfl .i64 .i64 128 (by omega) (by omega) w
  have e : madeCells #[.int .u8 0] 128 = u8s z128 := by
    apply Array.toList_inj.1
    rw [toList_madeCells_one]
    simp [u8s, z128]
  rw [e] at h
  exact h
theorem build1s (w : World) : (Instr.buildSlice 29 1 #[(0, .agg #[.int .i64 2, .int .i64 0, .slice none 0 0])]).run Tryz.prog w = .ok (.slice (some ⟨w.heap.size, 0, none⟩) 1 1) (w.alloc (.cells #[.int .i64 2, .int .i64 0, .slice none 0 0] 50)) := by kernel_rfl
theorem loadPl {w : World} {x : Nat} {a b c : Option Addr} {n1 c1 n2 c2 n3 c3 : Nat} (h : w.heap[x]? = some (.cells #[.slice a n1 c1, .slice b n2 c2, .slice c n3 c3] 75 (0, 0))) :
    (Instr.loadAt 75 (.pointer (some ⟨x, 0, none⟩))).run Tryz.prog w = .ok (.agg #[.slice a n1 c1, .slice b n2 c2, .slice c n3 c3]) w := by
  have e0 : w.cell? ⟨x, 0, none⟩ = some (.slice a n1 c1) := by simp [World.cell?, h]
  have e1 : w.cell? ⟨x, 1, none⟩ = some (.slice b n2 c2) := by simp [World.cell?, h]
  have e2 : w.cell? ⟨x, 2, none⟩ = some (.slice c n3 c3) := by simp [World.cell?, h]
  simp [go_sem, e0, e1, e2]
theorem run1_of_row {base : Nat} {w : World} {u : Value} (h : RRow base w u run1) : ∃ ra rc, u = .slice (some ra) 1 rc ∧ 1 ≤ rc ∧ RunAt w ra rc := by
  have hr := h.own.read
  have h' : w.ownsRow base 57 3 u 1 (flatR run1) := h
  rcases h'.2 with ⟨_, e⟩ | ⟨g, cap, cur, hv, _, hg, hc, _⟩
  · omega
  · subst hv; exact ⟨_, cap, rfl, hc, hr, cur, hg⟩
theorem RunAt.upd {w w' : World} {ra : Addr} {rc x : Nat} {cs : Array Value} (h : RunAt w ra rc) (hx : w.heap[x]? = some (.cells cs 75 (0, 0))) (hu : Upd x (x + 1) w w') : RunAt w' ra rc := by
  obtain ⟨ds, e⟩ := h.2
  have hne : ra.block ≠ x := fun e1 => by rw [e1, hx] at e; simp at e
  exact h.kept (hu.block _ (Array.getElem?_eq_some_iff.1 e).1 (by omega))
theorem RunAt.ns {w w' : World} {ra : Addr} {rc : Nat} (h : RunAt w ra rc) (hn : NoSt w w') : RunAt w' ra rc := by
  obtain ⟨ds, e⟩ := h.2
  exact h.kept ((hn.cells e (by decide)).trans e.symm)
theorem st_slice {base : Nat} {w : World} {v : Value} {n : Nat} {cs : List Value} (h : StR base w v n cs) (hp : 0 < n) : ∃ g c, v = .slice (some ⟨g, 0, none⟩) n c ∧ ∀ j u, cs[j]? = some u → w.cell? ((⟨g, 0, none⟩ : Addr).add j) = some u := by
  have h' : w.ownsRow base 50 3 v n cs := h
  rcases h'.2 with ⟨_, e⟩ | ⟨g, cap, cur, hv, h1, h2, h3, h4, h5, h6⟩
  · omega
  · refine ⟨g, cap, hv, fun j u hj => ?_⟩
    have hjl : j < cs.length := by
      by_cases hh : j < cs.length
      · exact hh
      · rw [List.getElem?_eq_none (by omega)] at hj; cases hj
    have hl := h'.1
    rw [Addr.add_mid, Nat.zero_add]
    subst hv
    rw [h'.cellAt j (by omega)]
    exact hj
theorem nts_block {w : World} {d n : Nat} (hn : 8 ≤ n) (h : w.heap[d]? = some (.cells (i64s (com1 n)) 2 (0, 0))) : Nts w (.slice (some ⟨d, 0, none⟩) n n) (com1 n) := by
  refine ⟨fun i => ?_, _, n, by rw [com1_length], fun _ => ⟨d, 0, rfl, fun i hi => ?_⟩⟩
  · rw [com1_at n i hn]; split <;> omega
  · rw [Nat.zero_add]
    simp [World.cell?, h, i64s, hi]

/-- an array of 45 values, one by one -/
theorem arr45 (a : Array Value) (h : a.size = 45) : ∃ x0 x1 x2 x3 x4 x5 x6 x7 x8 x9 x10 x11 x12 x13 x14 x15 x16 x17 x18 x19 x20 x21 x22 x23 x24 x25 x26 x27 x28 x29 x30 x31 x32 x33 x34 x35 x36 x37 x38 x39 x40 x41 x42 x43 x44, a = #[x0, x1, x2, x3, x4, x5, x6, x7, x8, x9, x10, x11, x12, x13, x14, x15, x16, x17, x18, x19, x20, x21, x22, x23, x24, x25, x26, x27, x28, x29, x30, x31, x32, x33, x34, x35, x36, x37, x38, x39, x40, x41, x42, x43, x44] := by
  obtain ⟨l⟩ := a
  have h' : l.length = 45 := by simpa using h
  clear h
  obtain _ | ⟨x0, l⟩ := l
  · simp at h'
  obtain _ | ⟨x1, l⟩ := l
  · simp at h'
  obtain _ | ⟨x2, l⟩ := l
  · simp at h'
  obtain _ | ⟨x3, l⟩ := l
  · simp at h'
  obtain _ | ⟨x4, l⟩ := l
  · simp at h'
  obtain _ | ⟨x5, l⟩ := l
  · simp at h'
  obtain _ | ⟨x6, l⟩ := l
  · simp at h'
  obtain _ | ⟨x7, l⟩ := l
  · simp at h'
  obtain _ | ⟨x8, l⟩ := l
  · simp at h'
  obtain _ | ⟨x9, l⟩ := l
  · simp at h'
  obtain _ | ⟨x10, l⟩ := l
  · simp at h'
  obtain _ | ⟨x11, l⟩ := l
  · simp at h'
  obtain _ | ⟨x12, l⟩ := l
  · simp at h'
  obtain _ | ⟨x13, l⟩ := l
  · simp at h'
  obtain _ | ⟨x14, l⟩ := l
  · simp at h'
  obtain _ | ⟨x15, l⟩ := l
  · simp at h'
  obtain _ | ⟨x16, l⟩ := l
  · simp at h'
  obtain _ | ⟨x17, l⟩ := l
  · simp at h'
  obtain _ | ⟨x18, l⟩ := l
  · simp at h'
  obtain _ | ⟨x19, l⟩ := l
  · simp at h'
  obtain _ | ⟨x20, l⟩ := l
  · simp at h'
  obtain _ | ⟨x21, l⟩ := l
  · simp at h'
  obtain _ | ⟨x22, l⟩ := l
  · simp at h'
  obtain _ | ⟨x23, l⟩ := l
  · simp at h'
  obtain _ | ⟨x24, l⟩ := l
  · simp at h'
  obtain _ | ⟨x25, l⟩ := l
  · simp at h'
  obtain _ | ⟨x26, l⟩ := l
  · simp at h'
  obtain _ | ⟨x27, l⟩ := l
  · simp at h'
  obtain _ | ⟨x28, l⟩ := l
  · simp at h'
  obtain _ | ⟨x29, l⟩ := l
  · simp at h'
  obtain _ | ⟨x30, l⟩ := l
  · simp at h'
  obtain _ | ⟨x31, l⟩ := l
  · simp at h'
  obtain _ | ⟨x32, l⟩ := l
  · simp at h'
  obtain _ | ⟨x33, l⟩ := l
  · simp at h'
  obtain _ | ⟨x34, l⟩ := l
  · simp at h'
  obtain _ | ⟨x35, l⟩ := l
  · simp at h'
  obtain _ | ⟨x36, l⟩ := l
  · simp at h'
  obtain _ | ⟨x37, l⟩ := l
  · simp at h'
  obtain _ | ⟨x38, l⟩ := l
  · simp at h'
  obtain _ | ⟨x39, l⟩ := l
  · simp at h'
  obtain _ | ⟨x40, l⟩ := l
  · simp at h'
  obtain _ | ⟨x41, l⟩ := l
  · simp at h'
  obtain _ | ⟨x42, l⟩ := l
  · simp at h'
  obtain _ | ⟨x43, l⟩ := l
  · simp at h'
  obtain _ | ⟨x44, l⟩ := l
  · simp at h'
  have hl : l = [] := List.eq_nil_of_length_eq_zero (by simpa using h')
  subst hl
  exact ⟨x0, x1, x2, x3, x4, x5, x6, x7, x8, x9, x10, x11, x12, x13, x14, x15, x16, x17, x18, x19, x20, x21, x22, x23, x24, x25, x26, x27, x28, x29, x30, x31, x32, x33, x34, x35, x36, x37, x38, x39, x40, x41, x42, x43, x44, rfl⟩

/-- the steps of a fresh volume, as freshSteps answers them -/
structure MkR (base n : Nat) (w : World) (v : Value) (ga gb g1 g2 g3 f r q : Nat) : Prop where
  row : StR base w v 8 [.int .i64 1, .int .i64 0, .slice (some ⟨ga, 0, none⟩) 128 128, .int .i64 1, .int .i64 1, .slice (some ⟨gb, 0, none⟩) 128 128, .int .i64 2, .int .i64 0, .slice none 0 0, .int .i64 1, .int .i64 2, .slice (some ⟨g1, 0, none⟩) 128 128, .int .i64 1, .int .i64 3, .slice (some ⟨g2, 0, none⟩) 128 128, .int .i64 2, .int .i64 0, .slice none 0 0, .int .i64 1, .int .i64 1, .slice (some ⟨g3, 0, none⟩) 128 128, .int .i64 2, .int .i64 0, .slice none 0 0]
  da : Dat w ga 5 z128
  db : Dat w gb 5 z128
  hab : ga < gb
  d1 : Dat w g1 121 (slL (headL 1 0))
  d2 : Dat w g2 121 (slL (layP 0 run1 1))
  d3 : Dat w g3 121 (slL (su6 n))
  fo : ∃ cs, w.heap[f]? = some (.cells cs 72 (0, 0))
  ro : w.heap[r]? = some (.cells #[.int .i64 0, .int .i64 2] 68 (0, 0))
  ta : w.heap[q]? = some (.cells #[.int .i64 3] 2 (0, 0))
  ba : base ≤ ga
  b1 : base ≤ g1
  b2 : base ≤ g2
  b3 : base ≤ g3
  bf : base ≤ f
  br : base ≤ r
  bq : base ≤ q

set_option maxRecDepth 100000 in
set_option maxHeartbeats 8000000 in
theorem freshSteps_any (n : Nat) (hn : 8 ≤ n ∧ n ≤ 512) (w : World) :
    Calls Tryz.prog 15 #[.int .i64 n] w fun e w' => ∃ v ga gb g1 g2 g3 f r q, e = .returned v ∧ MkR w.heap.size n w' v ga gb g1 g2 g3 f r q ∧ Below w.heap.size w w' := by
  have hmk := mk128
  go_enter Tryz.func15, Tryz.ntmps15
  go_wp2_with fail
  go_loopw [3, 7] (fun st i wr => ∃ k : Nat, k ≤ 2 ∧ i = .int .i64 k ∧ Below w.heap.size w wr ∧ ∃ ga gb, (k = 0 → st = .slice none 0 0) ∧ (k = 1 → StR w.heap.size wr st 1 [.int .i64 1, .int .i64 0, .slice (some ⟨ga, 0, none⟩) 128 128] ∧ Dat wr ga 5 z128 ∧ w.heap.size ≤ ga) ∧ (k = 2 → StR w.heap.size wr st 2 [.int .i64 1, .int .i64 0, .slice (some ⟨ga, 0, none⟩) 128 128, .int .i64 1, .int .i64 1, .slice (some ⟨gb, 0, none⟩) 128 128] ∧ Dat wr ga 5 z128 ∧ Dat wr gb 5 z128 ∧ ga < gb ∧ w.heap.size ≤ ga)) (fun _ i _ => 2 - (intOf i).toNat)
  case atStart => exact ⟨0, by omega, rfl, Below.refl _ _, 0, 0, fun _ => rfl, fun h => by omega, fun h => by omega⟩
  case round =>
    obtain ⟨k, hk, rfl, hb, ga, gb, hk0, hk1, hk2⟩ := hrel
    have hsz := hb.size
    by_cases h0 : k = 0
    · subst h0
      obtain rfl := hk0 rfl
      clear hk0 hk1 hk2
      obtain ⟨W1, HW1⟩ : ∃ W1, Hid (W1 = wr.alloc (.cells (u8s z128) 5)) := ⟨_, rfl⟩
      have hb1 : Below wr.heap.size wr W1 := by rw [HW1.out]; exact belowA _ _
      have hD1 : Dat W1 wr.heap.size 5 z128 := by rw [HW1.out]; exact heap_alloc_new _ _
      have hB1 := hb.trans (hb1.mono hb.size)
      go_wp2_with fail
      rw [← HW1.out]
      refine (writeStep_any 0 _ _ _ _).mono ?_
      rintro e w3 ⟨rfl, hb3⟩
      have hB3 := hB1.trans (hb3.mono hB1.size)
      have hD3 := hD1.below hb3
      have hrow := StR.none w.heap.size w3
      have hsz3 := hB3.size
      go_wp2_with (first | (at_builtin; refine wpList_appendSt1 rfl _ _ rfl (.int .i64 1) (.int .i64 0) (.slice (some ⟨wr.heap.size, 0, none⟩) 128 128) rfl hrow rfl rfl (by omega) hsz3 ?_; intro v' w4 hrow4 hns4 hbl4))
      go_roundw
      case rel => exact ⟨1, by omega, by go_num, hB3.trans hbl4, wr.heap.size, 0, fun h => by omega, fun _ => ⟨by simpa using hrow4, hns4.dat hD3 (by decide), hsz⟩, fun h => by omega⟩
      case measure => simp [intOf]
    · by_cases h1 : k = 1
      · subst h1
        obtain ⟨hrow, hDa, hga⟩ := hk1 rfl
        clear hk0 hk1 hk2 h0
        obtain ⟨W1, HW1⟩ : ∃ W1, Hid (W1 = wr.alloc (.cells (u8s z128) 5)) := ⟨_, rfl⟩
        have hb1 : Below wr.heap.size wr W1 := by rw [HW1.out]; exact belowA _ _
        have hD1 : Dat W1 wr.heap.size 5 z128 := by rw [HW1.out]; exact heap_alloc_new _ _
        have hB1 := hb.trans (hb1.mono hb.size)
        have hrow1 := hrow.below hb1
        have hDa1 := hDa.below hb1
        have hlt := hDa.lt
        clear hrow
        go_wp2_with fail
        rw [← HW1.out]
        refine (writeStep_any 1 _ _ _ _).mono ?_
        rintro e w3 ⟨rfl, hb3⟩
        have hB3 := hB1.trans (hb3.mono hB1.size)
        have hD3 := hD1.below hb3
        have hDa3 := hDa1.below hb3
        have hrow3 := hrow1.below hb3
        have hsz3 := hB3.size
        clear hrow1
        go_wp2_with (first | (at_builtin; refine wpList_appendSt1 rfl _ _ rfl (.int .i64 1) (.int .i64 1) (.slice (some ⟨wr.heap.size, 0, none⟩) 128 128) rfl hrow3 rfl rfl (by omega) hsz3 ?_; intro v' w4 hrow4 hns4 hbl4))
        go_roundw
        case rel => exact ⟨2, by omega, by go_num, hB3.trans hbl4, ga, wr.heap.size, fun h => by omega, fun h => by omega, fun _ => ⟨by simpa using hrow4, hns4.dat hDa3 (by decide), hns4.dat hD3 (by decide), hlt, hga⟩⟩
        case measure => simp [intOf]
      · obtain rfl : k = 2 := by omega
        obtain ⟨hrow, hDa, hDb, hab, hga⟩ := hk2 rfl
        clear hk0 hk1 hk2 h0 h1 hmk
        go_wp2_with fail
        refine (freshForest_any n hn wr).mono ?_
        rintro e W8 ⟨f, r, m, p, d, q, rfl, hF8, hb8⟩
        have hB8 := hb.trans (hb8.mono hb.size)
        have hrow8 := hrow.below hb8
        have hDa8 := hDa.below hb8
        have hDb8 := hDb.below hb8
        have hF8' := hF8
        clear hrow hDa hDb hb8
        have hcf : ∀ W : World, Below W8.heap.size W8 W → W.cell? ⟨f, 0, none⟩ = some (.slice (some ⟨r, 0, none⟩) 1 1) ∧ W.cell? ⟨f, 5, none⟩ = some (.slice (some ⟨d, 0, none⟩) n n) ∧ W.cell? ⟨f, 6, none⟩ = some (.slice (some ⟨q, 0, none⟩) 1 1) ∧ W.cell? ⟨r, 1, none⟩ = some (.int .i64 2) := fun W h => by
          have hF := (NoSt.of_below h).fresh hF8
          obtain ⟨c, hFc⟩ := hF.fst
          simp [World.cell?, hFc, hF.root]
        have com_nts : ∀ W : World, Below W8.heap.size W8 W → Nts W (.slice (some ⟨d, 0, none⟩) n n) (com1 n) := fun W h => nts_block hn.1 ((NoSt.of_below h).fresh hF8).com
        have HCF : Hid _ := hcf
        have HCN : Hid _ := com_nts
        clear hcf com_nts
        go_wp2_with fail
        have hcf := HCF.out
        have com_nts := HCN.out
        refine wp_region_any (by kernel_rfl) ?_
        refine wpAny_inv (BI W8 f r d q n u3) ?step ?fin (all_listed (ahead_of (by kernel_rfl))) _ _ _ _ (by simp) ?cl (by kernel_rfl) ?ini
        case cl => intro k hk; exfalso; simp [Array.getElem?_replicate] at hk; split at hk <;> simp at hk
        case ini =>
          refine ⟨rfl, rfl, rfl, rfl, (Below.refl _ _).drew, fun _ k hk => ?_, fun hk => ?_⟩
          · exfalso; simp [Array.getElem?_replicate] at hk; split at hk <;> simp at hk
          · exfalso; simp at hk
        case step =>
          intro l a wx hs hcl hI i o ho hnt hnf hd
          have hi20 : i < 20 := by
            by_cases hh : i < 20
            · exact hh
            · rw [Array.getElem?_eq_none (by simpa using Nat.le_of_not_lt hh)] at ho; cases ho
          have ho0 := ho
          match i, hi20 with
          | 0, _ =>
            simp only [List.getElem?_toArray, List.getElem?_cons_zero, Option.some.injEq] at ho; subst ho
            have hnl : l.getD 19 false = false := by
              cases hh : l.getD 19 false with
              | false => rfl
              | true => have := (hcl 19 hh _ rfl { on := 0, ground := .phase } (by simp) rfl); rw [this] at hnf; cases hnf
            have hFF := hI.early hnl
            have fs := hI.s5
            refine wpOp_do ho0 rfl (wp_value (v := .pointer (some ⟨f, 0, none⟩)) (w' := wx) (by simp only [execOp, Act.eval, Sem.run_pure, fs]) ?_)
            exact hI.next (by kernel_rfl) hcl ho0 (by omega) hnf hnl 19 rfl (by omega) (by omega) (by omega) _ _ (Below.refl _ _) (rfl)
          | 1, _ =>
            simp only [List.getElem?_toArray, List.getElem?_cons_zero, List.getElem?_cons_succ, Option.some.injEq] at ho; subst ho
            have hnl : l.getD 19 false = false := by
              cases hh : l.getD 19 false with
              | false => rfl
              | true => have := (hcl 19 hh _ rfl { on := 1, ground := .phase } (by simp) rfl); rw [this] at hnf; cases hnf
            have hFF := hI.early hnl
            have l0 : l.getD 0 false = true := hd { on := 0, ground := .data } (by simp) rfl
            have f19 : a.tmps.getD 19 undef = .pointer (some ⟨f, 0, none⟩) := hFF 0 l0
            refine wpOp_do ho0 rfl (wp_value (v := .pointer (some ⟨f, 0, none⟩)) (w' := wx) (by simp only [execOp, Act.eval, Sem.run_pure, f19]) ?_)
            exact hI.next (by kernel_rfl) hcl ho0 (by omega) hnf hnl 20 rfl (by omega) (by omega) (by omega) _ _ (Below.refl _ _) (rfl)
          | 2, _ =>
            simp only [List.getElem?_toArray, List.getElem?_cons_zero, List.getElem?_cons_succ, Option.some.injEq] at ho; subst ho
            have hnl : l.getD 19 false = false := by
              cases hh : l.getD 19 false with
              | false => rfl
              | true => have := (hcl 19 hh _ rfl { on := 2, ground := .phase } (by simp) rfl); rw [this] at hnf; cases hnf
            have hFF := hI.early hnl
            have l1 : l.getD 1 false = true := hd { on := 1, ground := .data } (by simp) rfl
            have f20 : a.tmps.getD 20 undef = .pointer (some ⟨f, 0, none⟩) := hFF 1 l1
            refine wpOp_do ho0 rfl (wp_value (v := .pointer (some ⟨f, 0, none⟩)) (w' := wx) (by simp only [execOp, Act.eval, Sem.run_bind, Sem.run_pure, Result.andThen_ok, f20, fieldF0 f]) ?_)
            exact hI.next (by kernel_rfl) hcl ho0 (by omega) hnf hnl 21 rfl (by omega) (by omega) (by omega) _ _ (Below.refl _ _) (rfl)
          | 3, _ =>
            simp only [List.getElem?_toArray, List.getElem?_cons_zero, List.getElem?_cons_succ, Option.some.injEq] at ho; subst ho
            have hnl : l.getD 19 false = false := by
              cases hh : l.getD 19 false with
              | false => rfl
              | true => have := (hcl 19 hh _ rfl { on := 3, ground := .phase } (by simp) rfl); rw [this] at hnf; cases hnf
            have hFF := hI.early hnl
            have l2 : l.getD 2 false = true := hd { on := 2, ground := .data } (by simp) rfl
            have f21 : a.tmps.getD 21 undef = .pointer (some ⟨f, 0, none⟩) := hFF 2 l2
            have cx := (hcf wx hI.below).1
            refine wpOp_do ho0 rfl (wp_value (v := .slice (some ⟨r, 0, none⟩) 1 1) (w' := wx) (by simp only [execOp, Act.eval, Sem.run_bind, Sem.run_pure, Result.andThen_ok, f21, loadRt cx]) ?_)
            exact hI.next (by kernel_rfl) hcl ho0 (by omega) hnf hnl 22 rfl (by omega) (by omega) (by omega) _ _ (Below.refl _ _) (rfl)
          | 4, _ =>
            simp only [List.getElem?_toArray, List.getElem?_cons_zero, List.getElem?_cons_succ, Option.some.injEq] at ho; subst ho
            have hnl : l.getD 19 false = false := by
              cases hh : l.getD 19 false with
              | false => rfl
              | true => have := (hcl 19 hh _ rfl { on := 4, ground := .phase } (by simp) rfl); rw [this] at hnf; cases hnf
            have hFF := hI.early hnl
            have l3 : l.getD 3 false = true := hd { on := 3, ground := .data } (by simp) rfl
            have f22 : a.tmps.getD 22 undef = .slice (some ⟨r, 0, none⟩) 1 1 := hFF 3 l3
            refine wpOp_do ho0 rfl (wp_value (v := .pointer (some ⟨r, 0, none⟩)) (w' := wx) (by simp only [execOp, Act.eval, Sem.run_bind, Sem.run_pure, Result.andThen_ok, f22, run_index r]) ?_)
            exact hI.next (by kernel_rfl) hcl ho0 (by omega) hnf hnl 23 rfl (by omega) (by omega) (by omega) _ _ (Below.refl _ _) (rfl)
          | 5, _ =>
            simp only [List.getElem?_toArray, List.getElem?_cons_zero, List.getElem?_cons_succ, Option.some.injEq] at ho; subst ho
            have hnl : l.getD 19 false = false := by
              cases hh : l.getD 19 false with
              | false => rfl
              | true => have := (hcl 19 hh _ rfl { on := 5, ground := .phase } (by simp) rfl); rw [this] at hnf; cases hnf
            have hFF := hI.early hnl
            have l4 : l.getD 4 false = true := hd { on := 4, ground := .data } (by simp) rfl
            have f23 : a.tmps.getD 23 undef = .pointer (some ⟨r, 0, none⟩) := hFF 4 l4
            refine wpOp_do ho0 rfl (wp_value (v := .pointer (some ⟨r, 1, none⟩)) (w' := wx) (by simp only [execOp, Act.eval, Sem.run_bind, Sem.run_pure, Result.andThen_ok, f23, fieldR1 r]) ?_)
            exact hI.next (by kernel_rfl) hcl ho0 (by omega) hnf hnl 24 rfl (by omega) (by omega) (by omega) _ _ (Below.refl _ _) (rfl)
          | 6, _ =>
            simp only [List.getElem?_toArray, List.getElem?_cons_zero, List.getElem?_cons_succ, Option.some.injEq] at ho; subst ho
            have hnl : l.getD 19 false = false := by
              cases hh : l.getD 19 false with
              | false => rfl
              | true => have := (hcl 19 hh _ rfl { on := 6, ground := .phase } (by simp) rfl); rw [this] at hnf; cases hnf
            have hFF := hI.early hnl
            have l5 : l.getD 5 false = true := hd { on := 5, ground := .data } (by simp) rfl
            have f24 : a.tmps.getD 24 undef = .pointer (some ⟨r, 1, none⟩) := hFF 5 l5
            have cx := (hcf wx hI.below).2.2.2
            refine wpOp_do ho0 rfl (wp_value (v := .int .i64 2) (w' := wx) (by simp only [execOp, Act.eval, Sem.run_bind, Sem.run_pure, Result.andThen_ok, f24, loadI cx]) ?_)
            exact hI.next (by kernel_rfl) hcl ho0 (by omega) hnf hnl 25 rfl (by omega) (by omega) (by omega) _ _ (Below.refl _ _) (rfl)
          | 7, _ =>
            simp only [List.getElem?_toArray, List.getElem?_cons_zero, List.getElem?_cons_succ, Option.some.injEq] at ho; subst ho
            have hnl : l.getD 19 false = false := by
              cases hh : l.getD 19 false with
              | false => rfl
              | true => have := (hcl 19 hh _ rfl { on := 7, ground := .phase } (by simp) rfl); rw [this] at hnf; cases hnf
            have hFF := hI.early hnl
            have l6 : l.getD 6 false = true := hd { on := 6, ground := .data } (by simp) rfl
            have f25 : a.tmps.getD 25 undef = .int .i64 2 := hFF 6 l6
            refine wpOp_do ho0 rfl (wp_value (v := .slice (some ⟨wx.heap.size, 0, none⟩) 1 1) (w' := (wx.alloc (.cells #[.int .i64 2] 2))) (by simp only [execOp, Act.eval, List.map_toArray, List.map_cons, List.map_nil, Sem.run_bind, Sem.run_pure, Result.andThen_ok, f25, build2]) ?_)
            exact hI.next (by kernel_rfl) hcl ho0 (by omega) hnf hnl 26 rfl (by omega) (by omega) (by omega) _ _ (belowA wx _) (⟨_, rfl, heap_alloc_new wx _⟩)
          | 8, _ =>
            simp only [List.getElem?_toArray, List.getElem?_cons_zero, List.getElem?_cons_succ, Option.some.injEq] at ho; subst ho
            have hnl : l.getD 19 false = false := by
              cases hh : l.getD 19 false with
              | false => rfl
              | true => have := (hcl 19 hh _ rfl { on := 8, ground := .phase } (by simp) rfl); rw [this] at hnf; cases hnf
            have hFF := hI.early hnl
            have fs := hI.s5
            refine wpOp_do ho0 rfl (wp_value (v := .pointer (some ⟨f, 0, none⟩)) (w' := wx) (by simp only [execOp, Act.eval, Sem.run_pure, fs]) ?_)
            exact hI.next (by kernel_rfl) hcl ho0 (by omega) hnf hnl 27 rfl (by omega) (by omega) (by omega) _ _ (Below.refl _ _) (rfl)
          | 9, _ =>
            simp only [List.getElem?_toArray, List.getElem?_cons_zero, List.getElem?_cons_succ, Option.some.injEq] at ho; subst ho
            have hnl : l.getD 19 false = false := by
              cases hh : l.getD 19 false with
              | false => rfl
              | true => have := (hcl 19 hh _ rfl { on := 9, ground := .phase } (by simp) rfl); rw [this] at hnf; cases hnf
            have hFF := hI.early hnl
            have l8 : l.getD 8 false = true := hd { on := 8, ground := .data } (by simp) rfl
            have f27 : a.tmps.getD 27 undef = .pointer (some ⟨f, 0, none⟩) := hFF 8 l8
            refine wpOp_do ho0 rfl (wp_value (v := .pointer (some ⟨f, 0, none⟩)) (w' := wx) (by simp only [execOp, Act.eval, Sem.run_pure, f27]) ?_)
            exact hI.next (by kernel_rfl) hcl ho0 (by omega) hnf hnl 28 rfl (by omega) (by omega) (by omega) _ _ (Below.refl _ _) (rfl)
          | 10, _ =>
            simp only [List.getElem?_toArray, List.getElem?_cons_zero, List.getElem?_cons_succ, Option.some.injEq] at ho; subst ho
            have hnl : l.getD 19 false = false := by
              cases hh : l.getD 19 false with
              | false => rfl
              | true => have := (hcl 19 hh _ rfl { on := 10, ground := .phase } (by simp) rfl); rw [this] at hnf; cases hnf
            have hFF := hI.early hnl
            have l9 : l.getD 9 false = true := hd { on := 9, ground := .data } (by simp) rfl
            have f28 : a.tmps.getD 28 undef = .pointer (some ⟨f, 0, none⟩) := hFF 9 l9
            refine wpOp_do ho0 rfl (wp_value (v := .pointer (some ⟨f, 6, none⟩)) (w' := wx) (by simp only [execOp, Act.eval, Sem.run_bind, Sem.run_pure, Result.andThen_ok, f28, fieldF6 f]) ?_)
            exact hI.next (by kernel_rfl) hcl ho0 (by omega) hnf hnl 29 rfl (by omega) (by omega) (by omega) _ _ (Below.refl _ _) (rfl)
          | 11, _ =>
            simp only [List.getElem?_toArray, List.getElem?_cons_zero, List.getElem?_cons_succ, Option.some.injEq] at ho; subst ho
            have hnl : l.getD 19 false = false := by
              cases hh : l.getD 19 false with
              | false => rfl
              | true => have := (hcl 19 hh _ rfl { on := 11, ground := .phase } (by simp) rfl); rw [this] at hnf; cases hnf
            have hFF := hI.early hnl
            have l10 : l.getD 10 false = true := hd { on := 10, ground := .data } (by simp) rfl
            have f29 : a.tmps.getD 29 undef = .pointer (some ⟨f, 6, none⟩) := hFF 10 l10
            have cx := (hcf wx hI.below).2.2.1
            refine wpOp_do ho0 rfl (wp_value (v := .slice (some ⟨q, 0, none⟩) 1 1) (w' := wx) (by simp only [execOp, Act.eval, Sem.run_bind, Sem.run_pure, Result.andThen_ok, f29, loadNs cx]) ?_)
            exact hI.next (by kernel_rfl) hcl ho0 (by omega) hnf hnl 30 rfl (by omega) (by omega) (by omega) _ _ (Below.refl _ _) (rfl)
          | 12, _ =>
            simp only [List.getElem?_toArray, List.getElem?_cons_zero, List.getElem?_cons_succ, Option.some.injEq] at ho; subst ho
            have hnl : l.getD 19 false = false := by
              cases hh : l.getD 19 false with
              | false => rfl
              | true => have := (hcl 19 hh _ rfl { on := 12, ground := .phase } (by simp) rfl); rw [this] at hnf; cases hnf
            have hFF := hI.early hnl
            have fs := hI.s5
            refine wpOp_do ho0 rfl (wp_value (v := .pointer (some ⟨f, 0, none⟩)) (w' := wx) (by simp only [execOp, Act.eval, Sem.run_pure, fs]) ?_)
            exact hI.next (by kernel_rfl) hcl ho0 (by omega) hnf hnl 31 rfl (by omega) (by omega) (by omega) _ _ (Below.refl _ _) (rfl)
          | 13, _ =>
            simp only [List.getElem?_toArray, List.getElem?_cons_zero, List.getElem?_cons_succ, Option.some.injEq] at ho; subst ho
            have hnl : l.getD 19 false = false := by
              cases hh : l.getD 19 false with
              | false => rfl
              | true => have := (hcl 19 hh _ rfl { on := 13, ground := .phase } (by simp) rfl); rw [this] at hnf; cases hnf
            have hFF := hI.early hnl
            have l12 : l.getD 12 false = true := hd { on := 12, ground := .data } (by simp) rfl
            have f31 : a.tmps.getD 31 undef = .pointer (some ⟨f, 0, none⟩) := hFF 12 l12
            refine wpOp_do ho0 rfl (wp_value (v := .pointer (some ⟨f, 0, none⟩)) (w' := wx) (by simp only [execOp, Act.eval, Sem.run_pure, f31]) ?_)
            exact hI.next (by kernel_rfl) hcl ho0 (by omega) hnf hnl 32 rfl (by omega) (by omega) (by omega) _ _ (Below.refl _ _) (rfl)
          | 14, _ =>
            simp only [List.getElem?_toArray, List.getElem?_cons_zero, List.getElem?_cons_succ, Option.some.injEq] at ho; subst ho
            have hnl : l.getD 19 false = false := by
              cases hh : l.getD 19 false with
              | false => rfl
              | true => have := (hcl 19 hh _ rfl { on := 14, ground := .phase } (by simp) rfl); rw [this] at hnf; cases hnf
            have hFF := hI.early hnl
            have l13 : l.getD 13 false = true := hd { on := 13, ground := .data } (by simp) rfl
            have f32 : a.tmps.getD 32 undef = .pointer (some ⟨f, 0, none⟩) := hFF 13 l13
            refine wpOp_do ho0 rfl (wp_value (v := .pointer (some ⟨f, 5, none⟩)) (w' := wx) (by simp only [execOp, Act.eval, Sem.run_bind, Sem.run_pure, Result.andThen_ok, f32, fieldF5 f]) ?_)
            exact hI.next (by kernel_rfl) hcl ho0 (by omega) hnf hnl 33 rfl (by omega) (by omega) (by omega) _ _ (Below.refl _ _) (rfl)
          | 15, _ =>
            simp only [List.getElem?_toArray, List.getElem?_cons_zero, List.getElem?_cons_succ, Option.some.injEq] at ho; subst ho
            have hnl : l.getD 19 false = false := by
              cases hh : l.getD 19 false with
              | false => rfl
              | true => have := (hcl 19 hh _ rfl { on := 15, ground := .phase } (by simp) rfl); rw [this] at hnf; cases hnf
            have hFF := hI.early hnl
            have l14 : l.getD 14 false = true := hd { on := 14, ground := .data } (by simp) rfl
            have f33 : a.tmps.getD 33 undef = .pointer (some ⟨f, 5, none⟩) := hFF 14 l14
            have cx := (hcf wx hI.below).2.1
            refine wpOp_do ho0 rfl (wp_value (v := .slice (some ⟨d, 0, none⟩) n n) (w' := wx) (by simp only [execOp, Act.eval, Sem.run_bind, Sem.run_pure, Result.andThen_ok, f33, loadNs cx]) ?_)
            exact hI.next (by kernel_rfl) hcl ho0 (by omega) hnf hnl 34 rfl (by omega) (by omega) (by omega) _ _ (Below.refl _ _) (rfl)
          | 16, _ =>
            simp only [List.getElem?_toArray, List.getElem?_cons_zero, List.getElem?_cons_succ, Option.some.injEq] at ho; subst ho
            have hnl : l.getD 19 false = false := by
              cases hh : l.getD 19 false with
              | false => rfl
              | true => have := (hcl 19 hh _ rfl { on := 16, ground := .phase } (by simp) rfl); rw [this] at hnf; cases hnf
            have hFF := hI.early hnl
            have l15 : l.getD 15 false = true := hd { on := 15, ground := .data } (by simp) rfl
            have f34 : a.tmps.getD 34 undef = .slice (some ⟨d, 0, none⟩) n n := hFF 15 l15
            refine wpOp_do ho0 rfl (wp_enter (f := 28) (args := #[.slice (some ⟨d, 0, none⟩) n n]) (by simp only [execOp, resolve, Act.eval, List.map_toArray, List.map_cons, List.map_nil, Sem.run_bind, f34]; kernel_rfl) ?_)
            refine (runsIn_any _ (com1 n) wx (com_nts wx hI.below) (by rw [com1_length]; omega)).mono ?_
            rintro e w' ⟨u, rfl, hRR, hbx⟩
            rw [com1_length, rns_com1 n hn.1] at hRR
            exact ⟨u, rfl, hI.next (by kernel_rfl) hcl ho0 (by omega) hnf hnl 35 rfl (by omega) (by omega) (by omega) _ _ hbx (run1_of_row hRR)⟩
          | 17, _ =>
            simp only [List.getElem?_toArray, List.getElem?_cons_zero, List.getElem?_cons_succ, Option.some.injEq] at ho; subst ho
            have hnl : l.getD 19 false = false := by
              cases hh : l.getD 19 false with
              | false => rfl
              | true => have := (hcl 19 hh _ rfl { on := 17, ground := .phase } (by simp) rfl); rw [this] at hnf; cases hnf
            have hFF := hI.early hnl
            have l7 : l.getD 7 false = true := hd { on := 7, ground := .data } (by simp) rfl
            have l11 : l.getD 11 false = true := hd { on := 11, ground := .data } (by simp) rfl
            have l16 : l.getD 16 false = true := hd { on := 16, ground := .data } (by simp) rfl
            obtain ⟨db, f26, _⟩ := hFF 7 l7
            have f30 : a.tmps.getD 30 undef = .slice (some ⟨q, 0, none⟩) 1 1 := hFF 11 l11
            obtain ⟨ra, rc, f35, _⟩ := hFF 16 l16
            simp only at f26 f35
            refine wpOp_do ho0 rfl (wp_value (v := .agg #[.slice (some ⟨db, 0, none⟩) 1 1, .slice (some ⟨q, 0, none⟩) 1 1, .slice (some ra) 1 rc]) (w' := wx) (by simp only [execOp, Act.eval, List.map_toArray, List.map_cons, List.map_nil, Sem.run_bind, Sem.run_pure, Result.andThen_ok, f26, f30, f35, buildPl]) ?_)
            exact hI.next (by kernel_rfl) hcl ho0 (by omega) hnf hnl 36 rfl (by omega) (by omega) (by omega) _ _ (Below.refl _ _) (by show (_ : Value) = Value.agg _; simp only [if_neg (show ¬ (26 : Nat) = 36 by omega), if_neg (show ¬ (30 : Nat) = 36 by omega), if_neg (show ¬ (35 : Nat) = 36 by omega), f26, f30, f35, if_true])
          | 18, _ =>
            simp only [List.getElem?_toArray, List.getElem?_cons_zero, List.getElem?_cons_succ, Option.some.injEq] at ho; subst ho
            have hnl : l.getD 19 false = false := by
              cases hh : l.getD 19 false with
              | false => rfl
              | true => have := (hcl 19 hh _ rfl { on := 18, ground := .phase } (by simp) rfl); rw [this] at hnf; cases hnf
            have hFF := hI.early hnl
            refine wpOp_do ho0 rfl (wp_value (v := .pointer (some ⟨wx.heap.size, 0, none⟩)) (w' := (wx.alloc (.cells #[.slice none 0 0, .slice none 0 0, .slice none 0 0] 75))) (by simp only [execOp, Sem.run_bind, Sem.run_pure, Result.andThen_ok, allocPl]) ?_)
            exact hI.next (by kernel_rfl) hcl ho0 (by omega) hnf hnl 6 rfl (by omega) (by omega) (by omega) _ _ (belowA wx _) (⟨_, rfl, hI.below.size, heap_alloc_new wx _⟩)
          | 19, _ =>
            simp only [List.getElem?_toArray, List.getElem?_cons_zero, List.getElem?_cons_succ, Option.some.injEq] at ho; subst ho
            have l17 : l.getD 17 false = true := hd { on := 17, ground := .data } (by simp) rfl
            have l18 : l.getD 18 false = true := hd { on := 18, ground := .data } (by simp) rfl
            have hFF := hI.early hnf
            have l7 : l.getD 7 false = true := hcl 17 l17 _ rfl { on := 7, ground := .data } (by simp) rfl
            have l11 : l.getD 11 false = true := hcl 17 l17 _ rfl { on := 11, ground := .data } (by simp) rfl
            have l16 : l.getD 16 false = true := hcl 17 l17 _ rfl { on := 16, ground := .data } (by simp) rfl
            obtain ⟨db, f26, hdb⟩ := hFF 7 l7
            have f30 : a.tmps.getD 30 undef = .slice (some ⟨q, 0, none⟩) 1 1 := hFF 11 l11
            obtain ⟨ra, rc, f35, hrc, hrd⟩ := hFF 16 l16
            have f36 : a.tmps.getD 36 undef = .agg #[a.tmps.getD 26 undef, a.tmps.getD 30 undef, a.tmps.getD 35 undef] := hFF 17 l17
            obtain ⟨x, f6, hx8, hx⟩ := hFF 18 l18
            simp only at f26 f35 f6
            rw [f26, f30, f35] at f36
            obtain ⟨w', hrun, hpl, hu⟩ := storePl hx (some ⟨db, 0, none⟩) (some ⟨q, 0, none⟩) (some ra) 1 1 1 1 1 rc
            refine wpOp_do ho0 rfl (wp_skip (w' := w') (by simp only [execOp, Act.eval, f6, f36, hrun, Sem.run_bind, Sem.run_pure, Result.andThen_ok]) ?_)
            have hdx : db ≠ x := fun e => by rw [e, hx] at hdb; simp at hdb
            have e19 : (l.setIfInBounds 19 true).getD 19 false = true := getD_set_self hnt
            have hbx : Below W8.heap.size W8 w' := hI.below.trans (hu.below hx8 hI.below.size)
            refine ⟨hI.size, hI.defers, hI.s3, hI.s5, hbx, fun hf => ?_, fun _ => ⟨x, db, ra, rc, f6, hpl, (hu.block db (Array.getElem?_eq_some_iff.1 hdb).1 (by omega)).trans hdb, hrc, hrd.upd hx hu⟩⟩
            rw [e19] at hf; cases hf
        case fin =>
          intro l a W9 hs hI hall
          obtain ⟨x, db, ra, rc, f6, hX9, hDB9, hrc, hR9⟩ := hI.late (hall 19 (by decide))
          have hb9 := hI.below
          have hB9w := hB8.trans (hb9.mono hB8.size)
          have hrow9 := hrow8.below hb9
          have hDa9 := hDa8.below hb9
          have hDb9 := hDb8.below hb9
          have hF9 := (NoSt.of_below hb9).fresh hF8
          have hB9 : w.heap.size ≤ W9.heap.size := hB9w.size
          obtain ⟨tm, df⟩ := a
          have hdf : df = [] := hI.defers
          subst hdf
          have hsz9 : tm.size = 45 := hI.size
          have h3 : tm.getD 3 undef = u3 := hI.s3
          have h5 : tm.getD 5 undef = .pointer (some ⟨f, 0, none⟩) := hI.s5
          have h6 : tm.getD 6 undef = .pointer (some ⟨x, 0, none⟩) := f6
          clear hI hall f6 hcf com_nts
          obtain ⟨x0, x1, x2, x3, x4, x5, x6, x7, x8, x9, x10, x11, x12, x13, x14, x15, x16, x17, x18, x19, x20, x21, x22, x23, x24, x25, x26, x27, x28, x29, x30, x31, x32, x33, x34, x35, x36, x37, x38, x39, x40, x41, x42, x43, x44, rfl⟩ := arr45 tm hsz9
          obtain rfl : x3 = u3 := h3
          obtain rfl : x5 = .pointer (some ⟨f, 0, none⟩) := h5
          obtain rfl : x6 = .pointer (some ⟨x, 0, none⟩) := h6
          clear hsz9
          have HDR : Hid (NoSt W9 W9.drew) := NoSt.of_below ((Below.refl _ _).drew)
          go_wp2_with fail
          refine wp_region_any (by kernel_rfl) ?_
          refine wpAny_inv (DI W9 w.heap.size n f x db q ra rc x3 [.int .i64 1, .int .i64 0, .slice (some ⟨ga, 0, none⟩) 128 128, .int .i64 1, .int .i64 1, .slice (some ⟨gb, 0, none⟩) 128 128]) ?step2 ?fin2 (all_listed (ahead_of (by kernel_rfl))) _ _ _ _ (by simp) ?cl2 (by kernel_rfl) ?ini2
          case cl2 => intro k hk; exfalso; simp [Array.getElem?_replicate] at hk; split at hk <;> simp at hk
          case ini2 =>
            refine ⟨rfl, rfl, rfl, rfl, rfl, HDR.out, (Below.refl _ _).drew, fun hk => ?_, fun hk => ?_, fun hk => ?_, fun _ => hrow9, fun hk => ?_, fun hk => ?_, fun hk => ?_, fun hk => ?_, fun hk => ?_, fun hk => ?_⟩
            all_goals (exfalso; simp at hk)
          case step2 =>
            intro l a wx hs hcl hI i o ho hnt hnf hd
            have hi9 : i < 9 := by
              by_cases hh : i < 9
              · exact hh
              · rw [Array.getElem?_eq_none (by simpa using Nat.le_of_not_lt hh)] at ho; cases ho
            have ho0 := ho
            match i, hi9 with
            | 0, _ =>
              simp only [List.getElem?_toArray, List.getElem?_cons_zero, Option.some.injEq] at ho; subst ho
              refine wpOp_do ho0 rfl (wp_value (v := x3) (w' := wx) (by simp only [execOp, Act.eval, hI.s3, Sem.run_pure]) ?_)
              exact hI.step0 hB9 wx (Below.refl _ _) _ rfl
            | 1, _ =>
              simp only [List.getElem?_toArray, List.getElem?_cons_zero, List.getElem?_cons_succ, Option.some.injEq] at ho; subst ho
              refine wpOp_do ho0 rfl (wp_enter (f := 29) (args := #[]) (by simp only [execOp, resolve, Act.eval, List.map_toArray, List.map_nil, Sem.run_bind]; kernel_rfl) ?_)
              refine (flushStep_any wx).mono ?_
              rintro e w' ⟨rfl, hbx⟩
              exact ⟨_, rfl, hI.step1 hB9 w' hbx _ rfl⟩
            | 2, _ =>
              simp only [List.getElem?_toArray, List.getElem?_cons_zero, List.getElem?_cons_succ, Option.some.injEq] at ho; subst ho
              have l1 : l.getD 1 false = true := hd { on := 1, ground := .data } (by simp) rfl
              have f38 := hI.f1 l1
              refine wpOp_do ho0 rfl (wp_value (v := .slice (some ⟨wx.heap.size, 0, none⟩) 1 1) (w' := wx.alloc (.cells #[.int .i64 2, .int .i64 0, .slice none 0 0] 50)) (by simp only [execOp, Act.eval, List.map_toArray, List.map_cons, List.map_nil, Sem.run_bind, Sem.run_pure, Result.andThen_ok, f38, build1s]) ?_)
              exact hI.step2 hB9 _ (belowA wx _) _ ⟨_, rfl, heap_alloc_new wx _⟩
            | 3, _ =>
              simp only [List.getElem?_toArray, List.getElem?_cons_zero, List.getElem?_cons_succ, Option.some.injEq] at ho; subst ho
              have l0 : l.getD 0 false = true := hd { on := 0, ground := .data } (by simp) rfl
              have l2 : l.getD 2 false = true := hd { on := 2, ground := .data } (by simp) rfl
              have n6 : l.getD 6 false = false := by
                cases hh : l.getD 6 false with
                | false => rfl
                | true => have := (hcl 6 hh _ rfl { on := 3, ground := .chain } (by simp) rfl); rw [this] at hnf; cases hnf
              have n7 : l.getD 7 false = false := by
                cases hh : l.getD 7 false with
                | false => rfl
                | true => have := (hcl 7 hh _ rfl { on := 3, ground := .data } (by simp) rfl); rw [this] at hnf; cases hnf
              have n8 : l.getD 8 false = false := by
                cases hh : l.getD 8 false with
                | false => rfl
                | true => have := (hcl 8 hh _ rfl { on := 3, ground := .phase } (by simp) rfl); rw [this] at hnf; cases hnf
              have f37 := hI.f0 l0
              obtain ⟨x, f39, hx⟩ := hI.f2 l2 hnf
              have hrw := hI.f3n hnf
              refine wpOp_do ho0 rfl (wp_appendSt (.tmp 37) (.tmp 39) rfl hrw f37 ⟨x, 0, none⟩ 1 1 f39 [.int .i64 2, .int .i64 0, .slice none 0 0] rfl (fun j u hj => by rw [Addr.add_mid, Nat.zero_add]; simp only [World.cell?, hx]; simpa using hj) (fun u hu => List.all_eq_true.1 (show ([.int .i64 2, .int .i64 0, .slice none 0 0] : List Value).all (·.oneCell') = true from rfl) u hu) (by omega) (Nat.le_trans hB9 hI.ns.1) ?_)
              intro v' w' hr' _ hns' hbl'
              exact hI.step3 n6 n7 n8 hnt w' v' hr' hns' hbl'
            | 4, _ =>
              simp only [List.getElem?_toArray, List.getElem?_cons_zero, List.getElem?_cons_succ, Option.some.injEq] at ho; subst ho
              refine wpOp_do ho0 rfl (wp_value (v := .pointer (some ⟨f, 0, none⟩)) (w' := wx) (by simp only [execOp, Act.eval, hI.s5, Sem.run_pure]) ?_)
              exact hI.step4 hB9 wx (Below.refl _ _) _ rfl
            | 5, _ =>
              simp only [List.getElem?_toArray, List.getElem?_cons_zero, List.getElem?_cons_succ, Option.some.injEq] at ho; subst ho
              have hx := hI.ns.cells hX9 (by decide)
              refine wpOp_do ho0 rfl (wp_value (v := .agg #[.slice (some ⟨db, 0, none⟩) 1 1, .slice (some ⟨q, 0, none⟩) 1 1, .slice (some ra) 1 rc]) (w' := wx) (by simp only [execOp, Act.eval, Sem.run_bind, Sem.run_pure, Result.andThen_ok, hI.s6, loadPl hx]) ?_)
              exact hI.step5 hB9 wx (Below.refl _ _) _ rfl
            | 6, _ =>
              simp only [List.getElem?_toArray, List.getElem?_cons_zero, List.getElem?_cons_succ, Option.some.injEq] at ho; subst ho
              have l4 : l.getD 4 false = true := hd { on := 4, ground := .data } (by simp) rfl
              have l5 : l.getD 5 false = true := hd { on := 5, ground := .data } (by simp) rfl
              have f41 := hI.f4 l4
              have f42 := hI.f5 l5
              have hdb := hI.ns.cells hDB9 (by decide)
              refine wpOp_do ho0 rfl (wp_enter (f := 30) (args := #[.pointer (some ⟨f, 0, none⟩), .agg #[.slice (some ⟨db, 0, none⟩) 1 1, .slice (some ⟨q, 0, none⟩) 1 1, .slice (some ra) 1 rc]]) (by simp only [execOp, resolve, Act.eval, List.map_toArray, List.map_cons, List.map_nil, Sem.run_bind, f41, f42]; kernel_rfl) ?_)
              refine (commitSteps1 hn (hI.ns.fresh hF9) db (by simp [World.cell?, hdb]) ra rc hrc (hR9.ns hI.ns).1).mono ?_
              rintro e w' ⟨v, g1, g2, g3, rfl, hC, hbx⟩
              exact ⟨v, rfl, hI.step6 hB9 w' hbx _ ⟨g1, g2, g3, hC.lower (Nat.le_trans hB9 hI.ns.1)⟩⟩
            | 7, _ =>
              simp only [List.getElem?_toArray, List.getElem?_cons_zero, List.getElem?_cons_succ, Option.some.injEq] at ho; subst ho
              have l3 : l.getD 3 false = true := hd { on := 3, ground := .data } (by simp) rfl
              have l6 : l.getD 6 false = true := hd { on := 6, ground := .data } (by simp) rfl
              have n8 : l.getD 8 false = false := by
                cases hh : l.getD 8 false with
                | false => rfl
                | true => have := (hcl 8 hh _ rfl { on := 7, ground := .data } (by simp) rfl); rw [this] at hnf; cases hnf
              have h40 := hI.f3 l3 hnf
              obtain ⟨g1, g2, g3, hC⟩ := hI.f6 l6 hnf
              obtain ⟨gx, cx, hgx, hcx⟩ := st_slice hC.row (by omega)
              refine wpOp_do ho0 rfl (wp_appendSt (.tmp 40) (.tmp 43) rfl h40 rfl ⟨gx, 0, none⟩ 5 cx hgx [.int .i64 1, .int .i64 2, .slice (some ⟨g1, 0, none⟩) 128 128, .int .i64 1, .int .i64 3, .slice (some ⟨g2, 0, none⟩) 128 128, .int .i64 2, .int .i64 0, .slice none 0 0, .int .i64 1, .int .i64 1, .slice (some ⟨g3, 0, none⟩) 128 128, .int .i64 2, .int .i64 0, .slice none 0 0] rfl hcx (fun u hu => List.all_eq_true.1 (show ([.int .i64 1, .int .i64 2, .slice (some ⟨g1, 0, none⟩) 128 128, .int .i64 1, .int .i64 3, .slice (some ⟨g2, 0, none⟩) 128 128, .int .i64 2, .int .i64 0, .slice none 0 0, .int .i64 1, .int .i64 1, .slice (some ⟨g3, 0, none⟩) 128 128, .int .i64 2, .int .i64 0, .slice none 0 0] : List Value).all (·.oneCell') = true from rfl) u hu) (by omega) (Nat.le_trans hB9 hI.ns.1) ?_)
              intro v' w' hr' _ hns' hbl'
              exact hI.step7 l3 n8 hnt w' v' hC hr' hns' hbl'
            | 8, _ =>
              simp only [List.getElem?_toArray, List.getElem?_cons_zero, List.getElem?_cons_succ, Option.some.injEq] at ho; subst ho
              refine wpOp_do ho0 rfl (wp_value (v := a.tmps.getD 44 undef) (w' := wx) (by simp only [execOp, Act.eval, Sem.run_pure]) ?_)
              exact hI.step8 hB9 wx (Below.refl _ _) _ rfl
          case fin2 =>
            intro l a wx hs hI hall
            obtain ⟨g1, g2, g3, e1, e2, e3, e4, e5, e6, e7⟩ := hI.f7 (hall 7 (by decide))
            have e8 := hI.f8 (hall 8 (by decide))
            obtain ⟨tm, df⟩ := a
            have hdf : df = [] := hI.defers
            subst hdf
            have hsz2 : tm.size = 45 := hI.size
            have hbw : Below w.heap.size w wx := hB9w.trans hI.bl
            have hFx := hI.ns.fresh hF9
            obtain ⟨c, hFc⟩ := hFx.fst
            have hr2 : StR w.heap.size wx (tm.getD 2 undef) 8 [.int .i64 1, .int .i64 0, .slice (some ⟨ga, 0, none⟩) 128 128, .int .i64 1, .int .i64 1, .slice (some ⟨gb, 0, none⟩) 128 128, .int .i64 2, .int .i64 0, .slice none 0 0, .int .i64 1, .int .i64 2, .slice (some ⟨g1, 0, none⟩) 128 128, .int .i64 1, .int .i64 3, .slice (some ⟨g2, 0, none⟩) 128 128, .int .i64 2, .int .i64 0, .slice none 0 0, .int .i64 1, .int .i64 1, .slice (some ⟨g3, 0, none⟩) 128 128, .int .i64 2, .int .i64 0, .slice none 0 0] := by
              have e8' : tm.getD 2 undef = tm.getD 44 undef := e8
              rw [e8']; exact e1
            have hM : MkR w.heap.size n wx (tm.getD 2 undef) ga gb g1 g2 g3 f r q := ⟨hr2, hI.ns.dat hDa9 (by decide), hI.ns.dat hDb9 (by decide), hab, e2, e3, e4, ⟨_, hFc⟩, hFx.root, hFx.tab, hga, e5, e6, e7, Nat.le_trans hsz hF8.hf, Nat.le_trans hsz hF8.hr, Nat.le_trans hsz hF8.hq⟩
            clear hI hall hFx hFc hr2 e1 e8
            obtain ⟨y0, y1, y2, y3, y4, y5, y6, y7, y8, y9, y10, y11, y12, y13, y14, y15, y16, y17, y18, y19, y20, y21, y22, y23, y24, y25, y26, y27, y28, y29, y30, y31, y32, y33, y34, y35, y36, y37, y38, y39, y40, y41, y42, y43, y44, rfl⟩ := arr45 tm hsz2
            have HM : Hid (MkR w.heap.size n wx y2 ga gb g1 g2 g3 f r q) := hM
            clear hM hsz2
            go_wp2_with fail
            go_ret
            exact ⟨y2, ga, gb, g1, g2, g3, f, r, q, rfl, HM.out, hbw⟩

end Go.Proofs.YtpjdhfbeofdplaaGreatDoor
