import Derived.Test.YtpjdhfbeofdplaaGreatDoorMs3
namespace Go.Proofs.YtpjdhfbeofdplaaGreatDoor
open Go.RowKit

/-- a node of zeros, k of them -/
def ndz (k : Nat) : List Value := (List.replicate k [.int .i64 0, .slice none 0 0]).flatten
theorem ndz_succ (k : Nat) : ndz (k + 1) = ndz k ++ [.int .i64 0, .slice none 0 0] := by simp [ndz, List.replicate_succ']
theorem ndz_at (k : Nat) : (ndz (k + 3))[4]? = some (.int .i64 0) ∧ (ndz (k + 3))[5]? = some (.slice none 0 0) := by
  have e : ndz (k + 3) = [.int .i64 0, .slice none 0 0, .int .i64 0, .slice none 0 0, .int .i64 0, .slice none 0 0] ++ ndz k := by simp [ndz, List.replicate_succ]
  rw [e]; exact ⟨rfl, rfl⟩
theorem infoNd : (Tryz.prog.info? 54).map (fun i => (i.zero, i.size, i.bytes)) = some (some (.agg #[.int .i64 0, .slice none 0 0]), 2, 32) := by kernel_rfl

theorem wpList_appendNd {ops : Array Oper} {rest : List Oper} {o : Oper} {a : Act} {Q : Exit → Act → World → Prop} (hgd : o.guard = none) (s x : Operand)
    (ho : o.op = .call { callee := .builtin .append, args := #[s, x], argTypes := #[42, 42] })
    {base : Nat} {w0 : World} {v : Value} {k : Nat} (hown : w0.ownsRow base 54 2 v k (ndz k)) (hs : a.eval s = v) (hx : a.eval x = .slice (some ⟨w0.heap.size, 0, none⟩) 1 1) (hk : k ≤ 512) (hb : base ≤ w0.heap.size)
    (h : ∀ v' w', w'.ownsRow base 54 2 v' (k + 1) (ndz (k + 1)) → NoT 54 w0 w' → Below base w0 w' → wpList Tryz.prog ops Q rest (a.put o.dst v') w') :
    wpList Tryz.prog ops Q (o :: rest) a (w0.alloc (.cells #[.int .i64 0, .slice none 0 0] 54)) := by
  refine wpList_appendT hgd s x 42 54 _ 2 32 Tryz.underlying42 infoNd rfl (by decide) ho (row_below hown (belowA _ _)) hs ⟨w0.heap.size, 0, none⟩ 1 1 hx [.int .i64 0, .slice none 0 0] rfl ?_ (fun u hm => List.all_eq_true.1 (show ([.int .i64 0, .slice none 0 0] : List Value).all (·.oneCell') = true from rfl) u hm) (by omega) (by omega) (by simp; omega) fun v' w' h1 h2 h3 => h v' w' (by rw [ndz_succ]; exact h1) ((NoT.of_below (belowA _ _)).trans h2) (((Below.refl base w0).alloc hb _).trans h3)
  intro j u hj
  rw [Addr.add_mid, Nat.zero_add, World.cell?_alloc_at _ _ _ _ rfl]
  simpa using hj

theorem cell_of_block {w w' : World} {b : Nat} (h : w'.heap[b]? = w.heap[b]?) (j : Nat) : w'.cell? ⟨b, j, none⟩ = w.cell? ⟨b, j, none⟩ := by simp [World.cell?, h]

/-- what l4Fresh leaves beside its answer -/
structure FrS (w : World) (na ra ta : Nat) : Prop where
  n0 : w.cell? ⟨na, 4, none⟩ = some (.int .i64 1)
  n1 : w.cell? ⟨na, 5, none⟩ = some (.slice none 0 0)
  ro : w.heap[ra]? = some (.cells #[.int .i64 0, .int .i64 2] 68 (0, 0))
  ta : w.heap[ta]? = some (.cells #[.int .i64 3] 2 (0, 0))
theorem FrS.below {w w' : World} {na ra ta : Nat} (h : FrS w na ra ta) (k : Below w.heap.size w w') : FrS w' na ra ta :=
  ⟨(k.cell (p := ⟨na, 4, none⟩) (World.block_lt_of_cell? _ _ h.n0)).trans h.n0, (k.cell (p := ⟨na, 5, none⟩) (World.block_lt_of_cell? _ _ h.n1)).trans h.n1, (k.block ra (Array.getElem?_eq_some_iff.1 h.ro).1).trans h.ro, (k.block ta (Array.getElem?_eq_some_iff.1 h.ta).1).trans h.ta⟩

set_option maxRecDepth 100000 in
set_option maxHeartbeats 2000000 in
theorem l4Fresh_any (n : Nat) (hn : 8 ≤ n ∧ n ≤ 512) (w : World) : Calls Tryz.prog 18 #[.int .i64 n] w fun e w' => ∃ na nc ra ta gc cc, e = .returned (.agg #[.int .i64 n, .slice (some ⟨na, 0, none⟩) n nc, .slice (some ⟨ra, 0, none⟩) 1 1, .int .i64 1, .int .i64 1, .slice (some ⟨gc, 0, none⟩) n cc, .slice (some ⟨ta, 0, none⟩) 1 1]) ∧ FrS w' na ra ta ∧ Below w.heap.size w w' := by
  obtain ⟨W0, HW0⟩ : ∃ W0, Hid (W0 = w.alloc (.cells #[.int .i64 0, .slice none 0 0, .slice none 0 0, .int .i64 0, .int .i64 0, .slice none 0 0, .slice none 0 0] 46)) := ⟨_, rfl⟩
  have hb0 : Below w.heap.size w W0 := by rw [HW0.out]; exact belowA _ _
  have hZ0 : W0.heap[w.heap.size]? = some (.cells #[.int .i64 0, .slice none 0 0, .slice none 0 0, .int .i64 0, .int .i64 0, .slice none 0 0, .slice none 0 0] 46 (0, 0)) := by rw [HW0.out]; exact heap_alloc_new _ _
  have hs0 : w.heap.size < W0.heap.size := (Array.getElem?_eq_some_iff.1 hZ0).1
  go_enter Tryz.func18, Tryz.ntmps18
  go_upto_region 1 with fail
  rw [← HW0.out]
  go_wp2_with fail
  refine (l4Zeros_any n hn.2 W0).mono ?_
  rintro e w1 ⟨u, rfl, hR1, hb1⟩
  have hR1' : w1.ownsRow W0.heap.size 2 1 u n ((List.replicate n (0 : Int)).map (Value.int .i64)) := by
    have h : w1.ownsRow W0.heap.size 2 1 u (List.replicate n (0 : Int)).length ((List.replicate n (0 : Int)).map (Value.int .i64)) := hR1
    rwa [List.length_replicate] at h
  rcases hR1'.2 with ⟨_, e0⟩ | ⟨gc, cc, cur, hu, hgB, hG1, hcn, _, hcs, _⟩
  · omega
  subst hu
  have hcs' : n ≤ cur.size := by omega
  clear hR1 hR1' hcs hcn
  have hgl : gc < w1.heap.size := (Array.getElem?_eq_some_iff.1 hG1).1
  obtain ⟨ta, hta⟩ : ∃ ta, ta = w1.heap.size := ⟨_, rfl⟩
  obtain ⟨W2, HW2⟩ : ∃ W2, Hid (W2 = (w1.alloc (.cells #[.int .i64 3] 2)).alloc (.cells #[.int .i64 n, .slice none 0 0, .slice none 0 0, .int .i64 1, .int .i64 1, .slice (some ⟨gc, 0, none⟩) n cc, .slice (some ⟨w1.heap.size, 0, none⟩) 1 1] 46)) := ⟨_, rfl⟩
  have hb2 : Below w1.heap.size w1 W2 := by rw [HW2.out]; exact ((Below.refl _ _).alloc (Nat.le_refl _) _).alloc (by simp) _
  have hT2 : W2.heap[w1.heap.size]? = some (.cells #[.int .i64 3] 2 (0, 0)) := by rw [HW2.out]; exact ((belowA (w1.alloc (.cells #[.int .i64 3] 2)) _).block _ (by simp)).trans (heap_alloc_new w1 _)
  have hS2 : W2.heap[w1.heap.size + 1]? = some (.cells #[.int .i64 n, .slice none 0 0, .slice none 0 0, .int .i64 1, .int .i64 1, .slice (some ⟨gc, 0, none⟩) n cc, .slice (some ⟨w1.heap.size, 0, none⟩) 1 1] 46 (0, 0)) := by
    rw [HW2.out]
    have h := heap_alloc_new (w1.alloc (.cells #[.int .i64 3] 2)) (.cells #[.int .i64 n, .slice none 0 0, .slice none 0 0, .int .i64 1, .int .i64 1, .slice (some ⟨gc, 0, none⟩) n cc, .slice (some ⟨w1.heap.size, 0, none⟩) 1 1] 46)
    simpa using h
  have hG2 := (hb2.block gc hgl).trans hG1
  have hZ1 := (hb1.block _ hs0).trans hZ0
  have hs1 := hb1.size
  have hZ2 := (hb2.block _ (by omega)).trans hZ1
  have hB2 : Below w.heap.size w W2 := (hb0.trans (hb1.mono (Nat.le_of_lt hs0))).trans (hb2.mono (by omega))
  have hs2 : w1.heap.size + 1 < W2.heap.size := (Array.getElem?_eq_some_iff.1 hS2).1
  clear hb0 hb1 hb2 hZ0 hZ1 hG1
  go_upto_region 2 with fail
  rw [← HW2.out]
  obtain ⟨S, hS⟩ : ∃ S, S = w1.heap.size + 1 := ⟨_, rfl⟩
  rw [← hS] at hS2 hs2 ⊢
  have hSt : ta < S := by omega
  rw [← hta] at hT2 hS2 ⊢
  have hgS : gc < ta := by omega
  have hgw : w.heap.size < gc := by omega
  clear hS hta hs1 hgl hgB HW2
  go_wp2_with fail
  go_loopw [4] (fun i wr => ∃ k : Nat, k ≤ n ∧ i = .int .i64 k ∧ ∃ v1, wr.heap[S]? = some (.cells #[.int .i64 n, v1, .slice none 0 0, .int .i64 1, .int .i64 1, .slice (some ⟨gc, 0, none⟩) n cc, .slice (some ⟨ta, 0, none⟩) 1 1] 46 (0, 0)) ∧ wr.ownsRow W2.heap.size 54 2 v1 k (ndz k) ∧ Upd S (S + 1) W2 wr) (fun i _ => n - (intOf i).toNat)
  case atStart => exact ⟨0, Nat.zero_le _, rfl, _, hS2, World.ownsRow_nil _ _ _ _, Upd.refl _ _ _⟩
  case round =>
    obtain ⟨k, hk, rfl, v1, hSr, hown, hu⟩ := hrel
    have hsz := hu.size
    by_cases hlt : k < n
    · have hki : (k : Int) < (n : Int) := by omega
      have s1 : wr.cell? ⟨S, 1, none⟩ = some v1 := by simp [World.cell?, hSr]
      have hSl : S < wr.heap.size := (Array.getElem?_eq_some_iff.1 hSr).1
      obtain ⟨va, vn, vc, hv1⟩ : ∃ va vn vc, v1 = .slice va vn vc := by
        rcases hown.2 with ⟨hv, _⟩ | ⟨g, cap, cur2, hv, _⟩
        · exact ⟨_, _, _, hv⟩
        · exact ⟨_, _, _, hv⟩
      subst hv1
      go_wp2_with (first | (at_builtin; refine wpList_appendNd rfl _ _ rfl hown rfl rfl (by omega) hsz ?_; intro v' w4 hown4 hns4 hbl4; have hS4 := hns4.cells hSr (by decide); obtain ⟨ya, yn, yc, hy⟩ : ∃ ya yn yc, v' = Value.slice ya yn yc := (by rcases hown4.2 with ⟨hv, _⟩ | ⟨g, cap, cur2, hv, _⟩ <;> exact ⟨_, _, _, hv⟩); subst hy; have t1 : w4.cell? ⟨S, 1, none⟩ = some (.slice va vn vc) := (by simp [World.cell?, hS4]); have tf : w4.frozen? ⟨S, 1, none⟩ = false := frozen_of_row w4 S _ _ _ hS4))
      have hS5 := heap_setCell_same w4 S 1 _ _ (.slice ya yn yc) hS4
      have hown5 : (w4.setCell ⟨S, 1, none⟩ (.slice ya yn yc)).ownsRow W2.heap.size 54 2 (.slice ya yn yc) (k + 1) (ndz (k + 1)) := by
        refine ⟨hown4.1, ?_⟩
        rcases hown4.2 with hv | ⟨g, cap, cur2, hv, e1, e2, e3⟩
        · exact .inl hv
        · exact .inr ⟨g, cap, cur2, hv, e1, (Below.heap_setCell _ ⟨S, 1, none⟩ _ g (by show g ≠ S; omega)).trans e2, e3⟩
      have hu5 : Upd S (S + 1) W2 (w4.setCell ⟨S, 1, none⟩ (.slice ya yn yc)) := (Upd.mk (hbl4.os.trans hu.os) (hbl4.tape.trans hu.tape) (hbl4.output.trans hu.output) (Nat.le_trans hu.size hbl4.size) fun g hg hn2 => (hbl4.block g hg).trans (hu.block g hg hn2)).setCell (p := ⟨S, 1, none⟩) (Nat.le_refl _) (Nat.lt_succ_self _) _
      go_roundw
      case rel => exact ⟨k + 1, by omega, by go_num, _, by simpa using hS5, hown5, hu5⟩
      case measure => simp [intOf]; omega
    · obtain rfl : k = n := by omega
      rcases hown.2 with ⟨_, e0⟩ | ⟨na, nc, cur2, hv1, hnB, hN, hcn, _, hcs, hct⟩
      · omega
      subst hv1
      have s1 : wr.cell? ⟨S, 1, none⟩ = some (.slice (some ⟨na, 0, none⟩) k nc) := by simp [World.cell?, hSr]
      have hz := ndz_at (k - 3)
      rw [show k - 3 + 3 = k by omega] at hz
      have n4 : wr.cell? ⟨na, 4, none⟩ = some (.int .i64 0) := by
        have h := hz.1; rw [← hct, List.getElem?_take_of_lt (by omega), Array.getElem?_toList] at h; simp [World.cell?, hN, h]
      have n5 : wr.cell? ⟨na, 5, none⟩ = some (.slice none 0 0) := by
        have h := hz.2; rw [← hct, List.getElem?_take_of_lt (by omega), Array.getElem?_toList] at h; simp [World.cell?, hN, h]
      have f4 : wr.frozen? ⟨na, 4, none⟩ = false := frozen_of_row wr na _ _ _ hN
      have f5 : wr.frozen? ⟨na, 5, none⟩ = false := frozen_of_row wr na _ _ _ hN
      have b2 : (2 : Int) < (k : Int) := by omega
      have b3 : (3 : Int) < (k : Int) := by omega
      obtain ⟨W3, HW3⟩ : ∃ W3, Hid (W3 = (wr.setCell ⟨na, 4, none⟩ (.int .i64 1)).setCell ⟨na, 5, none⟩ (.slice none 0 0)) := ⟨_, rfl⟩
      have hN3 : W3.heap[na]? = some (.cells ((cur2.setIfInBounds 4 (.int .i64 1)).setIfInBounds 5 (.slice none 0 0)) 54 (0, 0)) := by
        rw [HW3.out]; exact heap_setCell_same _ na 5 _ _ _ (heap_setCell_same wr na 4 _ _ _ hN)
      have hb3 : ∀ g, g < W2.heap.size → W3.heap[g]? = wr.heap[g]? := by
        intro g hg; rw [HW3.out]; exact (Below.heap_setCell _ ⟨na, 5, none⟩ _ g (by show g ≠ na; omega)).trans (Below.heap_setCell _ ⟨na, 4, none⟩ _ g (by show g ≠ na; omega))
      have hz3 : wr.heap.size ≤ W3.heap.size := by rw [HW3.out]; simp
      have c4 : W3.cell? ⟨na, 4, none⟩ = some (.int .i64 1) := by simp [World.cell?, hN3, Array.getElem?_setIfInBounds, hcs]; omega
      have c5 : W3.cell? ⟨na, 5, none⟩ = some (.slice none 0 0) := by simp [World.cell?, hN3, Array.getElem?_setIfInBounds, hcs]; omega
      have hos3 : W3.os = wr.os ∧ W3.tape = wr.tape ∧ W3.output = wr.output := by rw [HW3.out]; exact ⟨rfl, rfl, rfl⟩
      clear hct hown hz
      go_upto_region 7 with fail
      rw [← HW3.out]
      have hS3 := (hb3 S (by omega)).trans hSr
      have hlS : S < W3.heap.size := by omega
      obtain ⟨R, hR⟩ : ∃ R, Hid (W3.heap.size = R) := ⟨_, rfl⟩
      have hSR : S < R := by have := hR.out; omega
      have hnR : na < R := by have := hR.out; have := (Array.getElem?_eq_some_iff.1 hN3).1; omega
      obtain ⟨Wa, HWa⟩ : ∃ Wa, Hid (Wa = W3.alloc (.cells #[.int .i64 0, .int .i64 2] 68)) := ⟨_, rfl⟩
      have hSa := ((belowA W3 (.cells #[.int .i64 0, .int .i64 2] 68)).block S hlS).trans hS3
      have hRa := heap_alloc_new W3 (.cells #[.int .i64 0, .int .i64 2] 68)
      have hba : ∀ g, g < W3.heap.size → Wa.heap[g]? = W3.heap[g]? := by intro g hg; rw [HWa.out]; exact (belowA W3 _).block g hg
      have hza : R + 1 ≤ Wa.heap.size := by rw [HWa.out, ← hR.out]; simp
      have hosa : Wa.os = W3.os ∧ Wa.tape = W3.tape ∧ Wa.output = W3.output := by rw [HWa.out]; exact ⟨rfl, rfl, rfl⟩
      rw [← HWa.out] at hSa hRa
      rw [hR.out] at hRa
      have s2 : Wa.cell? ⟨S, 2, none⟩ = some (.slice none 0 0) := by simp [World.cell?, hSa]
      have sf2 : Wa.frozen? ⟨S, 2, none⟩ = false := frozen_of_row Wa S _ _ _ hSa
      rw [HWa.out] at s2 sf2
      obtain ⟨W4, HW4⟩ : ∃ W4, Hid (W4 = Wa.setCell ⟨S, 2, none⟩ (.slice (some ⟨R, 0, none⟩) 1 1)) := ⟨_, rfl⟩
      have hS4 := heap_setCell_same Wa S 2 _ _ (.slice (some ⟨R, 0, none⟩) 1 1) hSa
      rw [← HW4.out] at hS4
      have hb4 : ∀ g, g ≠ S → W4.heap[g]? = Wa.heap[g]? := by intro g hg; rw [HW4.out]; exact Below.heap_setCell _ ⟨S, 2, none⟩ _ g hg
      have hz4 : Wa.heap.size ≤ W4.heap.size := by rw [HW4.out]; simp
      have hos4 : W4.os = Wa.os ∧ W4.tape = Wa.tape ∧ W4.output = Wa.output := by rw [HW4.out]; exact ⟨rfl, rfl, rfl⟩
      clear hlS
      go_upto_region 8 with fail
      rw [← HWa.out, hR.out, ← HW4.out]
      have hW2R : W2.heap.size ≤ R := by have := hR.out; omega
      have hS4' : W4.heap[S]? = some (.cells #[.int .i64 k, .slice (some ⟨na, 0, none⟩) k nc, .slice (some ⟨R, 0, none⟩) 1 1, .int .i64 1, .int .i64 1, .slice (some ⟨gc, 0, none⟩) k cc, .slice (some ⟨ta, 0, none⟩) 1 1] 46 (0, 0)) := by simpa using hS4
      have hG4 : W4.heap[gc]? = some (.cells cur 2 (0, 0)) := (hb4 gc (by omega)).trans ((hba gc (by have := hR.out; omega)).trans ((hb3 gc (by omega)).trans ((hu.block gc (by omega) (.inl (by omega))).trans hG2)))
      have hT4 : W4.heap[ta]? = some (.cells #[.int .i64 3] 2 (0, 0)) := (hb4 ta (by omega)).trans ((hba ta (by have := hR.out; omega)).trans ((hb3 ta (by omega)).trans ((hu.block ta (by omega) (.inl (by omega))).trans hT2)))
      have hZ4 := (hb4 w.heap.size (by omega)).trans ((hba w.heap.size (by have := hR.out; omega)).trans ((hb3 w.heap.size (by omega)).trans ((hu.block w.heap.size (by omega) (.inl (by omega))).trans hZ2)))
      have hR4 := (hb4 R (by omega)).trans hRa
      have c44 : W4.cell? ⟨na, 4, none⟩ = some (.int .i64 1) := (cell_of_block ((hb4 na (by omega)).trans (hba na (by have := hR.out; omega))) 4).trans c4
      have c45 : W4.cell? ⟨na, 5, none⟩ = some (.slice none 0 0) := (cell_of_block ((hb4 na (by omega)).trans (hba na (by have := hR.out; omega))) 5).trans c5
      have hB4 : Below w.heap.size w W4 := ⟨hos4.1.trans (hosa.1.trans (hos3.1.trans (hu.os.trans hB2.os))), hos4.2.1.trans (hosa.2.1.trans (hos3.2.1.trans (hu.tape.trans hB2.tape))), hos4.2.2.trans (hosa.2.2.trans (hos3.2.2.trans (hu.output.trans hB2.output))), by have := hR.out; have := hB2.size; omega, fun g hg => (hb4 g (by omega)).trans ((hba g (by have := hR.out; omega)).trans ((hb3 g (by omega)).trans ((hu.block g (by omega) (.inl (by omega))).trans (hB2.block g hg))))⟩
      clear HW4 HWa HW3 hS4 hb4 hba hb3 hR hosa hos3 hos4 c4 c5 hSa hRa hS3 s2 sf2 hza hz4 hz3 hN3 n4 n5 f4 f5 hN hSr s1 hu hT2 hG2 hZ2 hS2
      obtain ⟨x2, e2⟩ : ∃ x, cur[2]? = some x := ⟨cur[2]'(by omega), Array.getElem?_eq_getElem (by omega)⟩
      obtain ⟨x3, e3⟩ : ∃ x, cur[3]? = some x := ⟨cur[3]'(by omega), Array.getElem?_eq_getElem (by omega)⟩
      have s5 : W4.cell? ⟨S, 5, none⟩ = some (.slice (some ⟨gc, 0, none⟩) k cc) := by simp [World.cell?, hS4']
      have g2 : W4.cell? ⟨gc, 2, none⟩ = some x2 := by simp [World.cell?, hG4, e2]
      have gf2 : W4.frozen? ⟨gc, 2, none⟩ = false := frozen_of_row W4 gc _ _ _ hG4
      have hG5 := heap_setCell_same W4 gc 2 _ _ (.int .i64 1) hG4
      have hb5 : ∀ g, g ≠ gc → (W4.setCell ⟨gc, 2, none⟩ (.int .i64 1)).heap[g]? = W4.heap[g]? := fun g hg => Below.heap_setCell _ ⟨gc, 2, none⟩ _ g hg
      have hB5 : Below w.heap.size w (W4.setCell ⟨gc, 2, none⟩ (.int .i64 1)) := hB4.trans (Below.setCell (p := ⟨gc, 2, none⟩) (Below.refl _ _) (by show w.heap.size ≤ gc; omega) _)
      obtain ⟨W5, HW5⟩ : ∃ W5, Hid (W5 = W4.setCell ⟨gc, 2, none⟩ (.int .i64 1)) := ⟨_, rfl⟩
      go_upto_region 9 with fail
      rw [← HW5.out] at hG5 hb5 hB5 ⊢
      clear HW5 g2 gf2
      have t5 : W5.cell? ⟨S, 5, none⟩ = some (.slice (some ⟨gc, 0, none⟩) k cc) := (cell_of_block (hb5 S (by omega)) 5).trans s5
      have g3 : W5.cell? ⟨gc, 3, none⟩ = some x3 := by simp [World.cell?, hG5, e3]
      have gf3 : W5.frozen? ⟨gc, 3, none⟩ = false := frozen_of_row W5 gc _ _ _ hG5
      have hb6 : ∀ g, g ≠ gc → (W5.setCell ⟨gc, 3, none⟩ (.int .i64 1)).heap[g]? = W5.heap[g]? := fun g hg => Below.heap_setCell _ ⟨gc, 3, none⟩ _ g hg
      have hB6 : Below w.heap.size w (W5.setCell ⟨gc, 3, none⟩ (.int .i64 1)) := hB5.trans (Below.setCell (p := ⟨gc, 3, none⟩) (Below.refl _ _) (by show w.heap.size ≤ gc; omega) _)
      obtain ⟨W6, HW6⟩ : ∃ W6, Hid (W6 = W5.setCell ⟨gc, 3, none⟩ (.int .i64 1)) := ⟨_, rfl⟩
      go_upto_region 10 with fail
      rw [← HW6.out] at hb6 hB6 ⊢
      clear HW6 g3 gf3 t5
      have hS6 := (hb6 S (by omega)).trans ((hb5 S (by omega)).trans hS4')
      have hZ6 := (hb6 w.heap.size (by omega)).trans ((hb5 w.heap.size (by omega)).trans hZ4)
      have hT6 := (hb6 ta (by omega)).trans ((hb5 ta (by omega)).trans hT4)
      have hR6 := (hb6 R (by omega)).trans ((hb5 R (by omega)).trans hR4)
      have d4 : W6.cell? ⟨na, 4, none⟩ = some (.int .i64 1) := (cell_of_block ((hb6 na (by omega)).trans (hb5 na (by omega))) 4).trans c44
      have d5 : W6.cell? ⟨na, 5, none⟩ = some (.slice none 0 0) := (cell_of_block ((hb6 na (by omega)).trans (hb5 na (by omega))) 5).trans c45
      clear hb5 hb6 hG5 hG4 hS4' hZ4 hT4 hR4 c44 c45 s5 hB4 hB5
      have k0 : W6.cell? ⟨S, 0, none⟩ = some (.int .i64 k) := by simp [World.cell?, hS6]
      have k1 : W6.cell? ⟨S, 1, none⟩ = some (.slice (some ⟨na, 0, none⟩) k nc) := by simp [World.cell?, hS6]
      have k2 : W6.cell? ⟨S, 2, none⟩ = some (.slice (some ⟨R, 0, none⟩) 1 1) := by simp [World.cell?, hS6]
      have k3 : W6.cell? ⟨S, 3, none⟩ = some (.int .i64 1) := by simp [World.cell?, hS6]
      have k4 : W6.cell? ⟨S, 4, none⟩ = some (.int .i64 1) := by simp [World.cell?, hS6]
      have k5 : W6.cell? ⟨S, 5, none⟩ = some (.slice (some ⟨gc, 0, none⟩) k cc) := by simp [World.cell?, hS6]
      have k6 : W6.cell? ⟨S, 6, none⟩ = some (.slice (some ⟨ta, 0, none⟩) 1 1) := by simp [World.cell?, hS6]
      have z0 : W6.cell? ⟨w.heap.size, 0, none⟩ = some (.int .i64 0) := by simp [World.cell?, hZ6]
      have zf0 : W6.frozen? ⟨w.heap.size, 0, none⟩ = false := frozen_of_row W6 w.heap.size _ _ _ hZ6
      have z1 : W6.cell? ⟨w.heap.size, 1, none⟩ = some (.slice none 0 0) := by simp [World.cell?, hZ6]
      have zf1 : W6.frozen? ⟨w.heap.size, 1, none⟩ = false := frozen_of_row W6 w.heap.size _ _ _ hZ6
      have z2 : W6.cell? ⟨w.heap.size, 2, none⟩ = some (.slice none 0 0) := by simp [World.cell?, hZ6]
      have zf2 : W6.frozen? ⟨w.heap.size, 2, none⟩ = false := frozen_of_row W6 w.heap.size _ _ _ hZ6
      have z3 : W6.cell? ⟨w.heap.size, 3, none⟩ = some (.int .i64 0) := by simp [World.cell?, hZ6]
      have zf3 : W6.frozen? ⟨w.heap.size, 3, none⟩ = false := frozen_of_row W6 w.heap.size _ _ _ hZ6
      have z4 : W6.cell? ⟨w.heap.size, 4, none⟩ = some (.int .i64 0) := by simp [World.cell?, hZ6]
      have zf4 : W6.frozen? ⟨w.heap.size, 4, none⟩ = false := frozen_of_row W6 w.heap.size _ _ _ hZ6
      have z5 : W6.cell? ⟨w.heap.size, 5, none⟩ = some (.slice none 0 0) := by simp [World.cell?, hZ6]
      have zf5 : W6.frozen? ⟨w.heap.size, 5, none⟩ = false := frozen_of_row W6 w.heap.size _ _ _ hZ6
      have z6 : W6.cell? ⟨w.heap.size, 6, none⟩ = some (.slice none 0 0) := by simp [World.cell?, hZ6]
      have zf6 : W6.frozen? ⟨w.heap.size, 6, none⟩ = false := frozen_of_row W6 w.heap.size _ _ _ hZ6
      obtain ⟨W7, HW7⟩ : ∃ W7, Hid (W7 = (((((((W6).setCell ⟨w.heap.size, 0, none⟩ (.int .i64 k)).setCell ⟨w.heap.size, 1, none⟩ (.slice (some ⟨na, 0, none⟩) k nc)).setCell ⟨w.heap.size, 2, none⟩ (.slice (some ⟨R, 0, none⟩) 1 1)).setCell ⟨w.heap.size, 3, none⟩ (.int .i64 1)).setCell ⟨w.heap.size, 4, none⟩ (.int .i64 1)).setCell ⟨w.heap.size, 5, none⟩ (.slice (some ⟨gc, 0, none⟩) k cc)).setCell ⟨w.heap.size, 6, none⟩ (.slice (some ⟨ta, 0, none⟩) 1 1)) := ⟨_, rfl⟩
      have hZ7 : W7.heap[w.heap.size]? = some (.cells #[.int .i64 k, .slice (some ⟨na, 0, none⟩) k nc, .slice (some ⟨R, 0, none⟩) 1 1, .int .i64 1, .int .i64 1, .slice (some ⟨gc, 0, none⟩) k cc, .slice (some ⟨ta, 0, none⟩) 1 1] 46 (0, 0)) := by
        rw [HW7.out]
        have q0 := heap_setCell_same (W6) w.heap.size 0 _ _ (.int .i64 k) hZ6
        have q1 := heap_setCell_same ((W6).setCell ⟨w.heap.size, 0, none⟩ (.int .i64 k)) w.heap.size 1 _ _ (.slice (some ⟨na, 0, none⟩) k nc) q0
        have q2 := heap_setCell_same (((W6).setCell ⟨w.heap.size, 0, none⟩ (.int .i64 k)).setCell ⟨w.heap.size, 1, none⟩ (.slice (some ⟨na, 0, none⟩) k nc)) w.heap.size 2 _ _ (.slice (some ⟨R, 0, none⟩) 1 1) q1
        have q3 := heap_setCell_same ((((W6).setCell ⟨w.heap.size, 0, none⟩ (.int .i64 k)).setCell ⟨w.heap.size, 1, none⟩ (.slice (some ⟨na, 0, none⟩) k nc)).setCell ⟨w.heap.size, 2, none⟩ (.slice (some ⟨R, 0, none⟩) 1 1)) w.heap.size 3 _ _ (.int .i64 1) q2
        have q4 := heap_setCell_same (((((W6).setCell ⟨w.heap.size, 0, none⟩ (.int .i64 k)).setCell ⟨w.heap.size, 1, none⟩ (.slice (some ⟨na, 0, none⟩) k nc)).setCell ⟨w.heap.size, 2, none⟩ (.slice (some ⟨R, 0, none⟩) 1 1)).setCell ⟨w.heap.size, 3, none⟩ (.int .i64 1)) w.heap.size 4 _ _ (.int .i64 1) q3
        have q5 := heap_setCell_same ((((((W6).setCell ⟨w.heap.size, 0, none⟩ (.int .i64 k)).setCell ⟨w.heap.size, 1, none⟩ (.slice (some ⟨na, 0, none⟩) k nc)).setCell ⟨w.heap.size, 2, none⟩ (.slice (some ⟨R, 0, none⟩) 1 1)).setCell ⟨w.heap.size, 3, none⟩ (.int .i64 1)).setCell ⟨w.heap.size, 4, none⟩ (.int .i64 1)) w.heap.size 5 _ _ (.slice (some ⟨gc, 0, none⟩) k cc) q4
        have q6 := heap_setCell_same (((((((W6).setCell ⟨w.heap.size, 0, none⟩ (.int .i64 k)).setCell ⟨w.heap.size, 1, none⟩ (.slice (some ⟨na, 0, none⟩) k nc)).setCell ⟨w.heap.size, 2, none⟩ (.slice (some ⟨R, 0, none⟩) 1 1)).setCell ⟨w.heap.size, 3, none⟩ (.int .i64 1)).setCell ⟨w.heap.size, 4, none⟩ (.int .i64 1)).setCell ⟨w.heap.size, 5, none⟩ (.slice (some ⟨gc, 0, none⟩) k cc)) w.heap.size 6 _ _ (.slice (some ⟨ta, 0, none⟩) 1 1) q5
        simpa using q6
      have hb7 : ∀ g, g ≠ w.heap.size → W7.heap[g]? = W6.heap[g]? := by
        intro g hg; rw [HW7.out]
        exact (Below.heap_setCell _ ⟨w.heap.size, 6, none⟩ _ g hg).trans ((Below.heap_setCell _ ⟨w.heap.size, 5, none⟩ _ g hg).trans ((Below.heap_setCell _ ⟨w.heap.size, 4, none⟩ _ g hg).trans ((Below.heap_setCell _ ⟨w.heap.size, 3, none⟩ _ g hg).trans ((Below.heap_setCell _ ⟨w.heap.size, 2, none⟩ _ g hg).trans ((Below.heap_setCell _ ⟨w.heap.size, 1, none⟩ _ g hg).trans (Below.heap_setCell _ ⟨w.heap.size, 0, none⟩ _ g hg))))))
      have HF7 : Hid (FrS W7 na R ta) := ⟨(cell_of_block (hb7 na (by omega)) 4).trans d4, (cell_of_block (hb7 na (by omega)) 5).trans d5, (hb7 R (by omega)).trans hR6, (hb7 ta (by omega)).trans hT6⟩
      have HB7 : Hid (Below w.heap.size w W7) := by
        rw [HW7.out]
        exact (((((((hB6.setCell (p := ⟨w.heap.size, 0, none⟩) (Nat.le_refl _) _).setCell (p := ⟨w.heap.size, 1, none⟩) (Nat.le_refl _) _).setCell (p := ⟨w.heap.size, 2, none⟩) (Nat.le_refl _) _).setCell (p := ⟨w.heap.size, 3, none⟩) (Nat.le_refl _) _).setCell (p := ⟨w.heap.size, 4, none⟩) (Nat.le_refl _) _).setCell (p := ⟨w.heap.size, 5, none⟩) (Nat.le_refl _) _).setCell (p := ⟨w.heap.size, 6, none⟩) (Nat.le_refl _) _)
      have y0 : W7.cell? ⟨w.heap.size, 0, none⟩ = some (.int .i64 k) := by simp [World.cell?, hZ7]
      have y1 : W7.cell? ⟨w.heap.size, 1, none⟩ = some (.slice (some ⟨na, 0, none⟩) k nc) := by simp [World.cell?, hZ7]
      have y2 : W7.cell? ⟨w.heap.size, 2, none⟩ = some (.slice (some ⟨R, 0, none⟩) 1 1) := by simp [World.cell?, hZ7]
      have y3 : W7.cell? ⟨w.heap.size, 3, none⟩ = some (.int .i64 1) := by simp [World.cell?, hZ7]
      have y4 : W7.cell? ⟨w.heap.size, 4, none⟩ = some (.int .i64 1) := by simp [World.cell?, hZ7]
      have y5 : W7.cell? ⟨w.heap.size, 5, none⟩ = some (.slice (some ⟨gc, 0, none⟩) k cc) := by simp [World.cell?, hZ7]
      have y6 : W7.cell? ⟨w.heap.size, 6, none⟩ = some (.slice (some ⟨ta, 0, none⟩) 1 1) := by simp [World.cell?, hZ7]
      clear hb7 hZ7 hB6
      go_wp2_with fail
      rw [← HW7.out]
      exact bodyPost_ret (v := .agg #[.int .i64 k, .slice (some ⟨na, 0, none⟩) k nc, .slice (some ⟨R, 0, none⟩) 1 1, .int .i64 1, .int .i64 1, .slice (some ⟨gc, 0, none⟩) k cc, .slice (some ⟨ta, 0, none⟩) 1 1]) (by simp [results, Tryz.results18, go_sem, y0, y1, y2, y3, y4, y5, y6]) rfl ⟨na, nc, R, ta, gc, cc, rfl, HF7.out, HB7.out⟩

set_option maxRecDepth 100000 in
/-- the block of the fresh leaf -/
theorem l5NodeBlock_any (w : World) : Calls Tryz.prog 20 #[.agg #[.int .i64 1, .slice none 0 0]] w fun e w' => ∃ u, e = .returned u ∧ Row8 w.heap.size w' u (slL (headL 1 0)) ∧ Below w.heap.size w w' := by
  have hb0 := belowA w (.cells #[.int .i64 1, .slice none 0 0] 54)
  go_enter Tryz.func20, Tryz.ntmps20
  go_wp2_with fail
  refine (specEncLeaf _).mono ?_
  rintro e w1 ⟨u, rfl, hR, hb1⟩
  obtain ⟨ua, uc, rfl⟩ := hR.shape
  go_wp2_with fail
  go_ret
  exact ⟨_, rfl, hR.lower (by simp), hb0.trans (hb1.mono (by simp))⟩

end Go.Proofs.YtpjdhfbeofdplaaGreatDoor
