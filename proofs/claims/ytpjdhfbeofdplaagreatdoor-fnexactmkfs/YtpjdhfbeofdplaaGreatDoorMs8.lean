import Derived.Test.YtpjdhfbeofdplaaGreatDoorMs7
namespace Go.Proofs.YtpjdhfbeofdplaaGreatDoor
open Go.RowKit
set_option linter.unusedVariables false

/-- k zeros -/
def zr (k : Nat) : List Int := List.replicate k 0
theorem zr_succ (k : Nat) : zr (k + 1) = zr k ++ [0] := by simp [zr, List.replicate_succ']
theorem zr_length (k : Nat) : (zr k).length = k := by simp [zr]
theorem zr_shape {base k : Nat} {w : World} {v : Value} (h : Row8 base w v (zr k)) : ∃ a c, v = .slice a k c := by
  obtain ⟨a, c, e⟩ := h.shape; rw [zr_length] at e; exact ⟨a, c, e⟩
/-- the length of the slice that lies there -/
def lenAt (w : World) (p : Addr) : Nat := match w.cell? p with | some (.slice _ n _) => n | _ => 0

theorem wpList_appendZ {ops : Array Oper} {rest : List Oper} {o : Oper} {a : Act} {Q : Exit → Act → World → Prop} (hgd : o.guard = none) (s x : Operand)
    (ho : o.op = .call { callee := .builtin .append, args := #[s, x], argTypes := #[22, 22] })
    {base : Nat} {w0 : World} {v : Value} {k : Nat} (hown : Row8 base w0 v (zr k)) (hs : a.eval s = v) (hx : a.eval x = .slice (some ⟨w0.heap.size, 0, none⟩) 1 1) (hk : k ≤ 128) (hb : base ≤ w0.heap.size)
    (h : ∀ v' w', Row8 base w' v' (zr (k + 1)) → NoT 5 w0 w' → Below base w0 w' → wpList Tryz.prog ops Q rest (a.put o.dst v') w') :
    wpList Tryz.prog ops Q (o :: rest) a (w0.alloc (.cells #[.int .u8 0] 5)) := by
  have hown' : w0.ownsRow base 5 1 v (zr k).length ((zr k).map (.int .u8)) := hown
  rw [zr_length] at hown'
  refine wpList_appendT hgd s x 22 5 _ 1 1 Tryz.underlying22 info8 rfl (by decide) ho (row_below hown' (belowA _ _)) hs ⟨w0.heap.size, 0, none⟩ 1 1 hx [.int .u8 0] rfl ?_ (fun u hm => List.all_eq_true.1 (show ([.int .u8 0] : List Value).all (·.oneCell') = true from rfl) u hm) (by omega) (by omega) (by simp; omega) fun v' w' h1 h2 h3 => h v' w' ?_ ((NoT.of_below (belowA _ _)).trans h2) (((Below.refl base w0).alloc hb _).trans h3)
  · intro j u hj
    rw [Addr.add_mid, Nat.zero_add, World.cell?_alloc_at _ _ _ _ rfl]
    simpa using hj
  · show w'.ownsRow base 5 1 v' (zr (k + 1)).length ((zr (k + 1)).map (.int .u8))
    rw [zr_length, zr_succ]; simpa using h1

theorem StR.cells {base : Nat} {w : World} {s n c : Nat} {cs : List Value} (h : StR base w (.slice (some ⟨s, 0, Option.none⟩) n c) n cs) : ∃ cur, base ≤ s ∧ w.heap[s]? = some (.cells cur 50 (0, 0)) ∧ ∀ j u, cs[j]? = some u → w.cell? ⟨s, j, Option.none⟩ = some u := by
  rcases h.2 with ⟨hv, _⟩ | ⟨g, cap, cur, hv, h1, h2, h3, h4, h5, h6⟩
  · cases hv
  · simp only [Value.slice.injEq, Option.some.injEq, Addr.mk.injEq] at hv
    obtain ⟨⟨rfl, _, _⟩, _, rfl⟩ := hv
    refine ⟨cur, h1, h2, fun j u hj => ?_⟩
    rw [← h6] at hj
    rw [List.getElem?_take] at hj
    split at hj
    · rw [Array.getElem?_toList] at hj; simp [World.cell?, h2, hj]
    · cases hj
theorem StR.set {base : Nat} {w : World} {s n c : Nat} {cs : List Value} (h : StR base w (.slice (some ⟨s, 0, Option.none⟩) n c) n cs) (j : Nat) (hj : j < cs.length) (u : Value) : StR base (w.setCell ⟨s, j, Option.none⟩ u) (.slice (some ⟨s, 0, Option.none⟩) n c) n (cs.set j u) := by
  refine ⟨by rw [List.length_set]; exact h.1, ?_⟩
  rcases h.2 with ⟨hv, _⟩ | ⟨g, cap, cur, hv, h1, h2, h3, h4, h5, h6⟩
  · cases hv
  · simp only [Value.slice.injEq, Option.some.injEq, Addr.mk.injEq] at hv
    obtain ⟨⟨rfl, _, _⟩, _, rfl⟩ := hv
    refine .inr ⟨s, c, cur.setIfInBounds j u, rfl, h1, heap_setCell_same w s j _ _ u h2, h3, h4, by simpa using h5, ?_⟩
    rw [Array.toList_setIfInBounds, List.take_set, h6]
theorem StR.noT {e : TypeId} {base : Nat} {w w' : World} {v : Value} {n : Nat} {cs : List Value} (h : StR base w v n cs) (k : NoT e w w') (he : 50 ≠ e) : StR base w' v n cs := by
  refine ⟨h.1, ?_⟩
  rcases h.2 with hv | ⟨g, cap, cur, hv, h1, h2, h3⟩
  · exact .inl hv
  · exact .inr ⟨g, cap, cur, hv, h1, k.cells h2 he, h3⟩
theorem Row8.setStep {base : Nat} {w : World} {v : Value} {zs : List Int} (h : Row8 base w v zs) {s : Nat} {cur : Array Value} (hs : w.heap[s]? = some (.cells cur 50 (0, 0))) (j : Nat) (u : Value) : Row8 base (w.setCell ⟨s, j, none⟩ u) v zs := by
  refine ⟨h.1, ?_⟩
  rcases h.2 with hv | ⟨g, cap, cur, hv, h1, h2, h3⟩
  · exact .inl hv
  · refine .inr ⟨g, cap, cur, hv, h1, (Below.heap_setCell _ ⟨s, j, none⟩ _ g ?_).trans h2, h3⟩
    show g ≠ s
    rintro rfl
    rw [hs] at h2
    simp at h2
theorem Row8.blk {base : Nat} {w w' : World} {g m c : Nat} {zs : List Int} (h : Row8 base w (.slice (some ⟨g, 0, none⟩) m c) zs) (e : w'.heap[g]? = w.heap[g]?) : Row8 base w' (.slice (some ⟨g, 0, none⟩) m c) zs := by
  refine ⟨h.1, ?_⟩
  rcases h.2 with hv | ⟨g', cap, cur, hv, h1, h2, h3⟩
  · exact .inl hv
  · refine .inr ⟨g', cap, cur, hv, h1, ?_, h3⟩
    simp only [Value.slice.injEq, Option.some.injEq, Addr.mk.injEq] at hv
    obtain ⟨⟨rfl, _, _⟩, _, _⟩ := hv
    exact e.trans h2

theorem StR.at {base : Nat} {w : World} {v : Value} {n : Nat} {cs : List Value} (h : StR base w v n cs) (hn : 0 < n) : ∃ s c, v = .slice (some ⟨s, 0, Option.none⟩) n c := by
  rcases h.2 with ⟨_, h0⟩ | ⟨g, cap, cur, hv, _⟩
  · omega
  · exact ⟨g, cap, hv⟩
theorem row8_at {base : Nat} {w : World} {v : Value} {zs : List Int} (h : Row8 base w v zs) (hn : 0 < zs.length) : ∃ g c, v = .slice (some ⟨g, 0, none⟩) zs.length c ∧ base ≤ g := by
  rcases h.2 with ⟨_, h0⟩ | ⟨g, cap, cur, hv, h1, _⟩
  · omega
  · exact ⟨g, cap, hv, h1⟩
theorem Row8.lt {base : Nat} {w : World} {g m c : Nat} {zs : List Int} (h : Row8 base w (.slice (some ⟨g, 0, none⟩) m c) zs) : g < w.heap.size := by
  rcases h.2 with ⟨hv, _⟩ | ⟨g', cap, cur, hv, h1, h2, h3⟩
  · cases hv
  · simp only [Value.slice.injEq, Option.some.injEq, Addr.mk.injEq] at hv
    obtain ⟨⟨rfl, _, _⟩, _, _⟩ := hv
    exact (Array.getElem?_eq_some_iff.1 h2).1
theorem Row8.ne {base : Nat} {w : World} {g m c : Nat} {zs : List Int} (h : Row8 base w (.slice (some ⟨g, 0, none⟩) m c) zs) {s : Nat} {cur : Array Value} (hs : w.heap[s]? = some (.cells cur 50 (0, 0))) : g ≠ s := by
  rcases h.2 with ⟨hv, _⟩ | ⟨g', cap, cur, hv, h1, h2, h3⟩
  · cases hv
  · simp only [Value.slice.injEq, Option.some.injEq, Addr.mk.injEq] at hv
    obtain ⟨⟨rfl, _, _⟩, _, _⟩ := hv
    rintro rfl
    rw [hs] at h2
    simp at h2

set_option maxRecDepth 100000 in
theorem l2Num0 (w : World) : Calls Tryz.prog 19 #[.slice none 0 0, .int .i64 0, .int .i64 0] w fun e w' => e = .returned (.slice none 0 0) ∧ w = w' := by
  go_enter Tryz.func19, Tryz.ntmps19
  go_wp2_with fail
  go_loopw [0, 7] (fun b i wr => b = .slice none 0 0 ∧ i = .int .i64 0 ∧ w = wr) (fun _ _ _ => 0)
  case atStart => exact ⟨rfl, rfl, rfl⟩
  case round =>
    obtain ⟨rfl, rfl, hw⟩ := hrel
    go_wp2_with fail
    go_ret
    exact ⟨rfl, hw⟩

/-- the fresh state in the box at sb -/
structure MkS (n sb na nc ra ta : Nat) (w : World) : Prop where
  su : SuS n sb ra 1 ta 1 w
  c1 : w.cell? ⟨sb, 1, none⟩ = some (.slice (some ⟨na, 0, none⟩) n nc)
  n0 : w.cell? ⟨na, 4, none⟩ = some (.int .i64 1)
  n1 : w.cell? ⟨na, 5, none⟩ = some (.slice none 0 0)
theorem MkS.below {n sb na nc ra ta : Nat} {w w' : World} (h : MkS n sb na nc ra ta w) (k : Below w.heap.size w w') : MkS n sb na nc ra ta w' :=
  ⟨h.su.below k, (k.cell (p := ⟨sb, 1, none⟩) (World.block_lt_of_cell? _ _ h.c1)).trans h.c1, (k.cell (p := ⟨na, 4, none⟩) (World.block_lt_of_cell? _ _ h.n0)).trans h.n0, (k.cell (p := ⟨na, 5, none⟩) (World.block_lt_of_cell? _ _ h.n1)).trans h.n1⟩

/-- rows of bytes -/
def RL (B : Nat) (w : World) (l : List (Value × List Int)) : Prop := ∀ p ∈ l, Row8 B w p.1 p.2
theorem RL.noSt {B : Nat} {w w' : World} {l : List (Value × List Int)} (h : RL B w l) (k : NoSt w w') : RL B w' l := fun p hp => (h p hp).noSt k
theorem RL.below {B : Nat} {w w' : World} {l : List (Value × List Int)} (h : RL B w l) (k : Below w.heap.size w w') : RL B w' l := fun p hp => row_below (h p hp) k
theorem RL.cons {B : Nat} {w : World} {l : List (Value × List Int)} (h : RL B w l) {v : Value} {zs : List Int} (k : Row8 B w v zs) : RL B w ((v, zs) :: l) := by
  intro p hp
  rcases List.mem_cons.1 hp with rfl | hp
  · exact k
  · exact h p hp
theorem leaf_len : (headL 1 0).length = 128 := headL_length _ _
theorem chs_new (w : World) : ChS ((w.alloc (.cells #[.int .i64 3] 2)).alloc (.cells #[.int .i64 2, .int .i64 2, .int .i64 1] 57)) w.heap.size (w.heap.size + 1) := by
  have e1 : ((w.alloc (.cells #[.int .i64 3] 2)).alloc (.cells #[.int .i64 2, .int .i64 2, .int .i64 1] 57)).heap[w.heap.size]? = some (.cells #[.int .i64 3] 2 (0, 0)) := ((belowA (w.alloc (.cells #[.int .i64 3] 2)) _).block _ (by simp)).trans (heap_alloc_new w _)
  have e2 : ((w.alloc (.cells #[.int .i64 3] 2)).alloc (.cells #[.int .i64 2, .int .i64 2, .int .i64 1] 57)).heap[w.heap.size + 1]? = some (.cells #[.int .i64 2, .int .i64 2, .int .i64 1] 57 (0, 0)) := by
    have h := heap_alloc_new (w.alloc (.cells #[.int .i64 3] 2)) (.cells #[.int .i64 2, .int .i64 2, .int .i64 1] 57)
    simpa using h
  exact ⟨by simp only [World.cell?, e1]; rfl, by simp only [World.cell?, e2]; rfl, by simp only [World.cell?, e2]; rfl, by simp only [World.cell?, e2]; rfl⟩

/-- what the specification's steps are -/
def SpR (n : Nat) (w : World) (v : Value) : Prop := ∃ a0 c0 a1 c1 ua uc xa xc ya yc, ∃ B, StR B w v 8 [.int .i64 1, .int .i64 0, .slice a0 128 c0, .int .i64 1, .int .i64 1, .slice a1 128 c1, .int .i64 2, .int .i64 0, .slice none 0 0, .int .i64 1, .int .i64 2, .slice ua 128 uc, .int .i64 1, .int .i64 3, .slice xa 128 xc, .int .i64 2, .int .i64 0, .slice none 0 0, .int .i64 1, .int .i64 1, .slice ya 128 yc, .int .i64 2, .int .i64 0, .slice none 0 0] ∧ RL B w [(.slice ya 128 yc, slL (su6 n)), (.slice xa 128 xc, slL (layP 0 run1 1)), (.slice ua 128 uc, slL (headL 1 0)), (.slice a0 128 c0, zr 128), (.slice a1 128 c1, zr 128)]

set_option maxRecDepth 100000 in
set_option maxHeartbeats 8000000 in
theorem specMkfs_yes (n : Nat) (hn : 8 ≤ n ∧ n ≤ 512) (w : World) : Calls Tryz.prog 11 #[.int .i64 n] w fun e w' => ∃ v, e = .returned (.tuple #[v, .int .i64 0]) ∧ SpR n w' v ∧ Below w.heap.size w w' := by
  have hnI : (8 : Int) ≤ (n : Int) ∧ (n : Int) ≤ 512 := by omega
  go_enter Tryz.func11, Tryz.ntmps11
  go_wp2_with fail
  refine (l1BlocksOK_any _ _).mono ?_
  rintro e w1 ⟨rfl, rfl⟩
  rw [inB_true hnI]
  go_wp2_with fail
  refine (l4Fresh_any n hn _).mono ?_
  rintro e w1 ⟨na, nc, ra, ta, gc, cc, rfl, hF, hb1⟩
  obtain ⟨sb, hsb⟩ : ∃ sb, Hid (w1.heap.size = sb) := ⟨_, rfl⟩
  obtain ⟨W2, HW2⟩ : ∃ W2, Hid (W2 = w1.alloc (.cells #[.int .i64 n, .slice (some ⟨na, 0, none⟩) n nc, .slice (some ⟨ra, 0, none⟩) 1 1, .int .i64 1, .int .i64 1, .slice (some ⟨gc, 0, none⟩) n cc, .slice (some ⟨ta, 0, none⟩) 1 1] 46)) := ⟨_, rfl⟩
  have hb2 : Below w1.heap.size w1 W2 := by rw [HW2.out]; exact belowA _ _
  have hB2 : W2.heap[sb]? = some (.cells #[.int .i64 n, .slice (some ⟨na, 0, none⟩) n nc, .slice (some ⟨ra, 0, none⟩) 1 1, .int .i64 1, .int .i64 1, .slice (some ⟨gc, 0, none⟩) n cc, .slice (some ⟨ta, 0, none⟩) 1 1] 46 (0, 0)) := by rw [HW2.out, ← hsb.out]; exact heap_alloc_new _ _
  have hF2 := hF.below hb2
  have hM2 : MkS n sb na nc ra ta W2 := ⟨⟨by simp [World.cell?, hB2], by simp [World.cell?, hB2], by simp [World.cell?, hB2], by simp [World.cell?, hB2], by simp [World.cell?, hB2], by simp [World.cell?, hF2.ro], by simp [World.cell?, hF2.ro], by simp [World.cell?, hF2.ta]⟩, by simp [World.cell?, hB2], hF2.n0, hF2.n1⟩
  have HM : Hid (∀ W, Below W2.heap.size W2 W → MkS n sb na nc ra ta W) := fun W h => hM2.below h
  have hw2 : Below w.heap.size w W2 := hb1.trans (hb2.mono hb1.size)
  obtain ⟨B, hB⟩ : ∃ B, Hid (W2.heap.size = B) := ⟨_, rfl⟩
  obtain ⟨W3, HW3⟩ : ∃ W3, Hid (W3 = W2.alloc (.cells #[] 50)) := ⟨_, rfl⟩
  have hb3 : Below W2.heap.size W2 W3 := by rw [HW3.out]; exact belowA _ _
  have hS3 : StR W2.heap.size W3 (.slice (some ⟨W2.heap.size, 0, none⟩) 0 0) 0 [] := by rw [HW3.out]; exact StR.lit _ _ (Nat.le_refl _) _ rfl
  have hs3 := hb3.size
  clear hF hF2 hM2 hB2 hb2 hb1
  go_upto_region 4 with fail
  rw [← HW2.out, hsb.out]
  go_upto_region 5 with fail
  rw [← HW3.out]
  clear HW2 HW3 hsb
  go_wp2_with fail
  refine (l2Num0 _).mono ?_
  rintro e w4 ⟨rfl, rfl⟩
  go_wp2_with (first | (at_builtin; refine wpList_appendSt1 rfl _ _ rfl (.int .i64 1) (.int .i64 0) (.slice none 0 0) rfl hS3 rfl rfl (by omega) hs3 ?_; intro v' w4 hS4 hns4 hbl4; obtain ⟨va, vc, hv⟩ := StR.shape hS4; subst hv))
  have hb4 := hb3.trans hbl4
  have hs4 := hb4.size
  refine (l2Num0 _).mono ?_
  rintro e w5 ⟨rfl, rfl⟩
  go_wp2_with (first | (at_builtin; refine wpList_appendSt1 rfl _ _ rfl (.int .i64 1) (.int .i64 1) (.slice none 0 0) rfl hS4 rfl rfl (by omega) hs4 ?_; intro v' w5 hS5 hns5 hbl5; obtain ⟨s, sc, hv⟩ := StR.at hS5 (by omega); subst hv))
  have hb5 := hb4.trans hbl5
  have hS5' : StR W2.heap.size w5 (.slice (some ⟨s, 0, none⟩) 2 sc) 2 [.int .i64 1, .int .i64 0, .slice none 0 0, .int .i64 1, .int .i64 1, .slice none 0 0] := hS5
  clear hS5 hS4 hS3 hns4 hns5
  go_loopw [6] (fun i wr => Below W2.heap.size W2 wr ∧ ∃ d0 d1, StR W2.heap.size wr (.slice (some ⟨s, 0, none⟩) 2 sc) 2 [.int .i64 1, .int .i64 0, d0, .int .i64 1, .int .i64 1, d1] ∧ ((i = .int .i64 0 ∧ d0 = .slice none 0 0 ∧ d1 = .slice none 0 0) ∨ (i = .int .i64 1 ∧ Row8 W2.heap.size wr d0 (zr 128) ∧ d1 = .slice none 0 0) ∨ (i = .int .i64 2 ∧ Row8 W2.heap.size wr d0 (zr 128) ∧ Row8 W2.heap.size wr d1 (zr 128)))) (fun i _ => 2 - (intOf i).toNat)
  case atStart => exact ⟨hb5, _, _, hS5', .inl ⟨rfl, rfl, rfl⟩⟩
  case round =>
    obtain ⟨hbr, d0, d1, hSt, ⟨rfl, rfl, rfl⟩ | ⟨rfl, hR0, rfl⟩ | ⟨rfl, hR0, hR1⟩⟩ := hrel
    · skip
      obtain ⟨wq, rfl⟩ : ∃ wq, wq = wr := ⟨wr, rfl⟩
      go_wp2_with fail
      go_loopw [28] (fun x28 w' => True ∧ Below W2.heap.size W2 w' ∧ ∃ k da dc, k ≤ 128 ∧ StR W2.heap.size w' (.slice (some ⟨s, 0, none⟩) 2 sc) 2 [.int .i64 1, .int .i64 0, .slice da k dc, .int .i64 1, .int .i64 1, .slice none 0 0] ∧ Row8 W2.heap.size w' (.slice da k dc) (zr k)) (fun _ w' => 128 - lenAt w' ⟨s, 2, none⟩)
      case atStart => exact ⟨trivial, hbr, 0, none, 0, by omega, hSt, World.ownsRow_nil _ _ _ _⟩
      case round =>
        obtain ⟨_, hbk, k, da, dc, hk, hSk, hRk⟩ := hrel
        obtain ⟨cur, hsB, hsC, hcells⟩ := hSk.cells
        have ck : wr.cell? ⟨s, 2, none⟩ = some (.slice da k dc) := hcells 2 _ rfl
        by_cases hlt : k < 128
        · have hki : (k : Int) < 128 := by omega
          have hbs : W2.heap.size ≤ wr.heap.size := hbk.size
          go_wp2_with (first | (at_builtin; refine wpList_appendZ rfl _ _ rfl hRk rfl rfl (by omega) hbs ?_; intro v' w4 hR4 hns4 hbl4; have hS4 := hSk.noT hns4 (by decide); obtain ⟨cur4, _, hs4, hc4⟩ := hS4.cells; obtain ⟨ya, yc, hy⟩ := zr_shape hR4; subst hy; have t1 : w4.cell? ⟨s, 2, none⟩ = some (.slice da k dc) := hc4 2 _ rfl; have tf : w4.frozen? ⟨s, 2, none⟩ = false := frozen_of_row w4 s _ _ _ hs4))
          have hS5 : StR W2.heap.size (w4.setCell ⟨s, 2, none⟩ (.slice ya (k + 1) yc)) (.slice (some ⟨s, 0, none⟩) 2 sc) 2 [.int .i64 1, .int .i64 0, .slice ya (k + 1) yc, .int .i64 1, .int .i64 1, .slice none 0 0] := hS4.set 2 (by simp) _
          have hR5 : Row8 W2.heap.size (w4.setCell ⟨s, 2, none⟩ (.slice ya (k + 1) yc)) (.slice ya (k + 1) yc) (zr (k + 1)) := hR4.setStep hs4 2 _
          have hb5 : Below W2.heap.size W2 (w4.setCell ⟨s, 2, none⟩ (.slice ya (k + 1) yc)) := (hbk.trans (hbl4)).setCell (p := ⟨s, 2, none⟩) hsB _
          have hL5 : lenAt (w4.setCell ⟨s, 2, none⟩ (.slice ya (k + 1) yc)) ⟨s, 2, none⟩ = k + 1 := by
            obtain ⟨_, _, _, hc5⟩ := hS5.cells
            rw [lenAt, hc5 2 _ rfl]
          have hL0 : lenAt wr ⟨s, 2, none⟩ = k := by rw [lenAt, ck]
          clear ck t1 tf
          go_roundw
          case rel => exact ⟨trivial, hb5, k + 1, ya, yc, by omega, hS5, hR5⟩
          case measure => rw [hL5, hL0]; omega
        · obtain rfl : k = 128 := by omega
          go_wp2_with fail
          go_roundw
          case rel => exact ⟨hbk, _, _, hSk, .inr (.inl ⟨by go_num, hRk, rfl⟩)⟩
          case measure => simp [intOf]
    · obtain ⟨g0, c0, hd0, hgB⟩ := row8_at hR0 (by rw [zr_length]; omega)
      rw [zr_length] at hd0
      subst hd0
      have hgq := hR0.lt
      have hbq := hbr.size
      obtain ⟨curq, hsB, hsq, _⟩ := hSt.cells
      have hgs : g0 ≠ s := hR0.ne hsq
      obtain ⟨wq, rfl⟩ : ∃ wq, wq = wr := ⟨wr, rfl⟩
      go_wp2_with fail
      go_loopw [28] (fun x28 w' => True ∧ Below W2.heap.size W2 w' ∧ ∃ k da dc, k ≤ 128 ∧ StR W2.heap.size w' (.slice (some ⟨s, 0, none⟩) 2 sc) 2 [.int .i64 1, .int .i64 0, .slice (some ⟨g0, 0, none⟩) 128 c0, .int .i64 1, .int .i64 1, .slice da k dc] ∧ Row8 wq.heap.size w' (.slice da k dc) (zr k) ∧ w'.heap[g0]? = wq.heap[g0]? ∧ wq.heap.size ≤ w'.heap.size) (fun _ w' => 128 - lenAt w' ⟨s, 5, none⟩)
      case atStart => exact ⟨trivial, hbr, 0, none, 0, by omega, hSt, World.ownsRow_nil _ _ _ _, rfl, Nat.le_refl _⟩
      case round =>
        obtain ⟨_, hbk, k, da, dc, hk, hSk, hRk, hgk, hzk⟩ := hrel
        obtain ⟨cur, hsB, hsC, hcells⟩ := hSk.cells
        have ck : wr.cell? ⟨s, 5, none⟩ = some (.slice da k dc) := hcells 5 _ rfl
        by_cases hlt : k < 128
        · have hki : (k : Int) < 128 := by omega
          have hbs : wq.heap.size ≤ wr.heap.size := hzk
          go_wp2_with (first | (at_builtin; refine wpList_appendZ rfl _ _ rfl hRk rfl rfl (by omega) hbs ?_; intro v' w4 hR4 hns4 hbl4; have hS4 := hSk.noT hns4 (by decide); obtain ⟨cur4, _, hs4, hc4⟩ := hS4.cells; obtain ⟨ya, yc, hy⟩ := zr_shape hR4; subst hy; have t1 : w4.cell? ⟨s, 5, none⟩ = some (.slice da k dc) := hc4 5 _ rfl; have tf : w4.frozen? ⟨s, 5, none⟩ = false := frozen_of_row w4 s _ _ _ hs4))
          have hS5 : StR W2.heap.size (w4.setCell ⟨s, 5, none⟩ (.slice ya (k + 1) yc)) (.slice (some ⟨s, 0, none⟩) 2 sc) 2 [.int .i64 1, .int .i64 0, .slice (some ⟨g0, 0, none⟩) 128 c0, .int .i64 1, .int .i64 1, .slice ya (k + 1) yc] := hS4.set 5 (by simp) _
          have hR5 : Row8 wq.heap.size (w4.setCell ⟨s, 5, none⟩ (.slice ya (k + 1) yc)) (.slice ya (k + 1) yc) (zr (k + 1)) := hR4.setStep hs4 5 _
          have hb5 : Below W2.heap.size W2 (w4.setCell ⟨s, 5, none⟩ (.slice ya (k + 1) yc)) := (hbk.trans (hbl4.mono hbq)).setCell (p := ⟨s, 5, none⟩) hsB _
          have hL5 : lenAt (w4.setCell ⟨s, 5, none⟩ (.slice ya (k + 1) yc)) ⟨s, 5, none⟩ = k + 1 := by
            obtain ⟨_, _, _, hc5⟩ := hS5.cells
            rw [lenAt, hc5 5 _ rfl]
          have hL0 : lenAt wr ⟨s, 5, none⟩ = k := by rw [lenAt, ck]
          have hg5 : (w4.setCell ⟨s, 5, none⟩ (.slice ya (k + 1) yc)).heap[g0]? = wq.heap[g0]? := (Below.heap_setCell _ ⟨s, 5, none⟩ _ g0 hgs).trans ((hbl4.block g0 hgq).trans hgk)
          have hz5 : wq.heap.size ≤ (w4.setCell ⟨s, 5, none⟩ (.slice ya (k + 1) yc)).heap.size := by simp; exact Nat.le_trans hzk hbl4.size
          clear ck t1 tf
          go_roundw
          case rel => exact ⟨trivial, hb5, k + 1, ya, yc, by omega, hS5, hR5, hg5, hz5⟩
          case measure => rw [hL5, hL0]; omega
        · obtain rfl : k = 128 := by omega
          go_wp2_with fail
          go_roundw
          case rel => exact ⟨hbk, _, _, hSk, .inr (.inr ⟨by go_num, hR0.blk hgk, hRk.lower hbq⟩)⟩
          case measure => simp [intOf]
    · obtain ⟨a0, c0, hd0⟩ := zr_shape hR0
      obtain ⟨a1, c1, hd1⟩ := zr_shape hR1
      subst hd0 hd1
      have hL : RL W2.heap.size wr [(.slice a0 128 c0, zr 128), (.slice a1 128 c1, zr 128)] := by
        intro p hp
        simp only [List.mem_cons, List.not_mem_nil, or_false] at hp
        rcases hp with rfl | rfl
        · exact hR0
        · exact hR1
      have hsr := hbr.size
      clear hR0 hR1
      go_upto_region 13 with (first | (at_builtin; refine wpList_appendSt1 rfl _ _ rfl (.int .i64 2) (.int .i64 0) (.slice none 0 0) rfl hSt rfl rfl (by omega) hsr ?_; intro v' w6 hS6 hns6 hbl6; obtain ⟨va6, vc6, hv⟩ := StR.shape hS6; subst hv))
      have hb6 := hbr.trans hbl6
      have hL6 := hL.noSt hns6
      obtain ⟨_, q1, q2, q3⟩ := HM.out w6 hb6
      have i2 : (2 : Int) < (n : Int) := by omega
      clear hSt hL hns6 hbl6 hbr
      go_wp2_with fail
      refine (l5NodeBlock_any _).mono ?_
      rintro e w7 ⟨u, rfl, hU, hb7⟩
      obtain ⟨ua, uc, hu⟩ := hU.shape
      rw [slL_length leaf_len] at hu
      subst hu
      have hb7' := hb6.trans (hb7.mono hb6.size)
      have hS7 := hS6.below hb7
      have hL7 := (hL6.below hb7).cons (hU.lower hb6.size)
      have hs7 := hb7'.size
      clear q1 q2 q3 hS6 hL6 hU hb7
      go_upto_region 14 with (first | (at_builtin; refine wpList_appendSt1 rfl _ _ rfl (.int .i64 1) (.int .i64 2) (.slice ua 128 uc) rfl hS7 rfl rfl (by omega) hs7 ?_; intro v' w8 hS8 hns8 hbl8; obtain ⟨va8, vc8, hv⟩ := StR.shape hS8; subst hv))
      have hb8 := hb7'.trans hbl8
      have hL8 := hL7.noSt hns8
      have hcs : ChS ((w8.alloc (.cells #[.int .i64 3] 2)).alloc (.cells #[.int .i64 2, .int .i64 2, .int .i64 1] 57)) w8.heap.size (w8.heap.size + 1) := chs_new w8
      have hb9 := ((belowA w8 (.cells #[.int .i64 3] 2)).trans ((belowA _ (.cells #[.int .i64 2, .int .i64 2, .int .i64 1] 57)).mono (by simp)))
      clear hS7 hL7 hns8 hbl8
      go_wp2_with fail
      refine (l5Chain_any _ 1 _ 1 _ hcs).mono ?_
      rintro e w10 ⟨v, ud, rfl, hA, hb10⟩
      obtain ⟨g, gcp, hv⟩ := StR.at hA.row (by omega)
      subst hv
      obtain ⟨xa, xc, hx⟩ := hA.dat.shape
      rw [slL_length (layP_length 0 run1 1 (by omega))] at hx
      subst hx
      have hbx : Below w8.heap.size w8 w10 := hb9.trans (hb10.mono (by simp; omega))
      have hb10' := hb8.trans (hbx.mono hb8.size)
      have hS10 := hS8.below hbx
      have hL10 := (hL8.below hbx).cons (hA.dat.lower (by simp; have := hb8.size; omega))
      have hs10 := hb10'.size
      obtain ⟨_, _, _, hcc⟩ := hA.row.cells
      have k0 := hcc 0 _ rfl
      have k1 := hcc 1 _ rfl
      have k2 := hcc 2 _ rfl
      clear hcc hA hb10 hbx hb9 hcs hS8 hL8
      go_upto_region 15 with fail
      go_upto_region 16 with (first | (at_builtin; refine wpList_appendSt1 rfl _ _ rfl (.int .i64 1) (.int .i64 3) (.slice xa 128 xc) rfl hS10 rfl rfl (by omega) hs10 ?_; intro v' w11 hS11 hns11 hbl11; obtain ⟨va11, vc11, hv⟩ := StR.shape hS11; subst hv))
      have hb11 := hb10'.trans hbl11
      have hL11 := hL10.noSt hns11
      have hs11 := hb11.size
      clear k0 k1 k2 hS10 hL10 hns11 hbl11
      go_upto_region 17 with (first | (at_builtin; refine wpList_appendSt1 rfl _ _ rfl (.int .i64 2) (.int .i64 0) (.slice none 0 0) rfl hS11 rfl rfl (by omega) hs11 ?_; intro v' w12 hS12 hns12 hbl12; obtain ⟨va12, vc12, hv⟩ := StR.shape hS12; subst hv))
      have hb12 := hb11.trans hbl12
      have hL12 := hL11.noSt hns12
      clear hS11 hL11 hns12 hbl12
      go_wp2_with fail
      refine (l5SuperStep_any n hn sb ra 1 ta 1 _ (HM.out _ hb12).su).mono ?_
      rintro e w13 ⟨ya, yc, rfl, hD, hb13⟩
      have hb13' := hb12.trans (hb13.mono hb12.size)
      have hS13 := hS12.below hb13
      have hL13 := (hL12.below hb13).cons (hD.lower hb12.size)
      have hs13 := hb13'.size
      clear hS12 hL12 hD hb13
      go_upto_region 18 with (first | (at_builtin; refine wpList_appendSt1 rfl _ _ rfl (.int .i64 1) (.int .i64 1) (.slice ya 128 yc) rfl hS13 rfl rfl (by omega) hs13 ?_; intro v' w14 hS14 hns14 hbl14; obtain ⟨va14, vc14, hv⟩ := StR.shape hS14; subst hv))
      have hb14 := hb13'.trans hbl14
      have hL14 := hL13.noSt hns14
      have hs14 := hb14.size
      clear hS13 hL13 hns14 hbl14
      go_upto_region 19 with (first | (at_builtin; refine wpList_appendSt1 rfl _ _ rfl (.int .i64 2) (.int .i64 0) (.slice none 0 0) rfl hS14 rfl rfl (by omega) hs14 ?_; intro v' w15 hS15 hns15 hbl15; obtain ⟨va15, vc15, hv⟩ := StR.shape hS15; subst hv))
      have hb15 := hb14.trans hbl15
      have hL15 := hL14.noSt hns15
      have hw15 : Below w.heap.size w w15 := hw2.trans (hb15.mono hw2.size)
      clear hS14 hL14 hns15 hbl15
      go_wp2_with fail
      exact bodyPost_ret (v := .tuple #[.slice va15 8 vc15, .int .i64 0]) (by simp [results, Tryz.results11, go_sem]) rfl ⟨_, rfl, ⟨_, _, _, _, _, _, _, _, _, _, W2.heap.size, hS15, hL15⟩, hw15⟩

set_option maxRecDepth 100000 in
theorem specMkfs_no (n : Int) (hn : ¬ (8 ≤ n ∧ n ≤ 512)) (w : World) : Calls Tryz.prog 11 #[.int .i64 n] w fun e w' => e = .returned (.tuple #[.slice none 0 0, .int .i64 1]) ∧ w = w' := by
  go_enter Tryz.func11, Tryz.ntmps11
  go_wp2_with fail
  refine (l1BlocksOK_any _ _).mono ?_
  rintro e w1 ⟨rfl, rfl⟩
  rw [inB_false hn]
  go_wp2_with fail
  exact bodyPost_ret (v := .tuple #[.slice none 0 0, .int .i64 1]) (by simp [results, Tryz.results11, go_sem]) rfl ⟨rfl, rfl⟩

end Go.Proofs.YtpjdhfbeofdplaaGreatDoor
