import Derived.Test.YtamblkibmlfklabDoorDr3
namespace Go.Proofs.YtamblkibmlfklabDoor
open Go.RowKit
set_option linter.unusedVariables false

/-- a store into a row -/
theorem RowS.set {S : Nat → Prop} {w : World} {v : Value} {zs : List Int} (h : RowS S w v zs) (hp : 0 < zs.length) :
    ∃ b cap, v = .slice (some ⟨b, 0, none⟩) zs.length cap ∧ zs.length ≤ cap ∧ S b ∧ b < w.heap.size ∧ (∀ j, j < zs.length → w.cell? ⟨b, j, none⟩ = some (.int .i64 (zs.getD j 0)) ∧ w.frozen? ⟨b, j, none⟩ = false) ∧
      ∀ j x, j < zs.length → RowS S (w.setCell ⟨b, j, none⟩ (.int .i64 x)) v (zs.set j x) ∧ Frm S w (w.setCell ⟨b, j, none⟩ (.int .i64 x)) := by
  have hlt := h.1.lt
  rcases h.1.2 with ⟨_, e⟩ | ⟨g, cap, cur, hv, e1, e2, e3⟩
  · omega
  · subst hv
    refine ⟨g, cap, rfl, e3.1, h.2 g rfl, (hlt g rfl).2, fun j hj => ⟨?_, h.1.frozenAt j⟩, fun j x hj => ⟨⟨?_, h.2⟩, rfl, rfl, rfl, by simp [World.setCell], fun k _ hn => Below.heap_setCell _ _ _ _ fun e => hn (by rw [e]; exact h.2 g rfl)⟩⟩
    · rw [h.1.cellAt j (by omega)]; simp [hj]
    · obtain ⟨s1, _⟩ := h.1.stored j (.int .i64 x)
      rw [List.length_set, List.map_set]
      exact s1

theorem bnd_set {ys : List Int} (h : ∀ i, -9223372036854775808 ≤ ys.getD i 0 ∧ ys.getD i 0 ≤ 9223372036854775807) (j : Nat) (x : Int) (hx : -9223372036854775808 ≤ x ∧ x ≤ 9223372036854775807) (i : Nat) : -9223372036854775808 ≤ (ys.set j x).getD i 0 ∧ (ys.set j x).getD i 0 ≤ 9223372036854775807 := by
  have hi := h i
  simp only [List.getD_eq_getElem?_getD, List.getElem?_set] at hi ⊢
  by_cases e : j = i
  · subst e
    rw [if_pos rfl]
    by_cases hj : j < ys.length
    · rw [if_pos hj]; exact hx
    · rw [if_neg hj]; simp
  · rw [if_neg e]; exact hi
theorem bnd_more {ys : List Int} (h : ∀ i, -9223372036854775808 ≤ ys.getD i 0 ∧ ys.getD i 0 ≤ 9223372036854775807) {x : Int} (hx : -9223372036854775808 ≤ x ∧ x ≤ 9223372036854775807) (i : Nat) : -9223372036854775808 ≤ (ys ++ [x]).getD i 0 ∧ (ys ++ [x]).getD i 0 ≤ 9223372036854775807 := by
  by_cases h1 : i < ys.length
  · have := h i
    simp only [List.getD_eq_getElem?_getD, List.getElem?_append_left h1] at this ⊢
    exact this
  · by_cases h2 : i = ys.length
    · subst h2; simp; exact hx
    · have : (ys ++ [x]).getD i 0 = 0 := by simp [List.getElem?_eq_none (show (ys ++ [x]).length ≤ i by simp; omega)]
      rw [this]; omega
theorem Nts.first {w : World} {a : Option Addr} {n cap : Nat} {zs : List Int} (h : Nts w (.slice a n cap) zs) (k : Nat) (hk : k ≤ n) : Nts w (.slice a k cap) (zs.take k) := by
  obtain ⟨_, _, he, hc⟩ := h.shape
  simp only [Value.slice.injEq] at he
  obtain ⟨rfl, rfl, rfl⟩ := he
  have hl : (zs.take k).length = k := by simp; omega
  refine ⟨fun i => ?_, a, cap, by rw [hl], fun hp => ?_⟩
  · have := h.small i
    simp only [List.getD_eq_getElem?_getD, List.getElem?_take] at this ⊢
    by_cases hi : i < k
    · rw [if_pos hi]; exact this
    · rw [if_neg hi]; simp
  · rw [hl] at hp
    obtain ⟨b, off, ha, hcell⟩ := hc (by omega)
    refine ⟨b, off, ha, fun i hi => ?_⟩
    rw [hl] at hi
    rw [hcell i (by omega)]
    simp only [List.getD_eq_getElem?_getD, List.getElem?_take, if_pos hi]

set_option maxHeartbeats 4000000 in
theorem l3SpoilCounts_any (base g : Nat) (a : Option Addr) (c : Nat) (zs : List Int) (S : Nat → Prop) (v : Value) (ys : List Int) (hn : 8 ≤ ys.length ∧ ys.length ≤ 512) (hy : ∀ i, -9223372036854775808 ≤ ys.getD i 0 ∧ ys.getD i 0 ≤ 9223372036854775807) (w : World) (hs : Src base g a c zs w) (hr : RowS S w v ys) (hS : ∀ b, w.heap.size ≤ b → S b) (hg : ¬ S g) :
    Calls Tryd.prog 31 #[.pointer (some ⟨g, 0, none⟩), v] w fun e w' => ∃ u xs, e = .returned u ∧ xs.length ≤ 513 ∧ Nts w' u xs ∧ Frm (fun b => b = g ∨ S b) w w' := by
  obtain ⟨b0, cap0, rfl, -⟩ := hr.set (by omega)
  have hlen := hn
  have hpos : (0 : Int) < (ys.length : Int) := by omega
  go_enter Tryd.func31, Tryd.ntmps31
  go_wp2_with fail
  refine (l1Next_any base g a c zs 6 (by decide) (by decide) _ hs).mono ?_
  rintro e w1 ⟨k, rfl, hk0, hk6, hs1, hf1⟩
  go_wp2_with fail
  refine (l1Next_any base g a c zs ys.length hpos (by omega) _ hs1).mono ?_
  rintro e w2 ⟨i, rfl, hi0, hi1, hs2, hf2⟩
  have hf := hf1.trans hf2
  have hr2 := hr.frm hf (fun b h1 h2 => hg (by rw [← h2]; exact h1))
  have hS2 : ∀ b, w2.heap.size ≤ b → S b := fun b e => hS b (by have := hf.size; omega)
  have hF : Frm (fun b => b = g ∨ S b) w w2 := hf.mono fun b _ e => .inl e
  clear hr hs hs1 hs2 hf1 hf2 hf hS
  obtain ⟨j, rfl⟩ : ∃ j : Nat, i = (j : Int) := ⟨i.toNat, by omega⟩
  obtain ⟨b, cap, he, hcap, hSb, hbw, hcell, hset⟩ := hr2.set (by omega)
  simp only [Value.slice.injEq, Option.some.injEq, Addr.mk.injEq, and_true, true_and] at he
  obtain ⟨rfl, rfl⟩ := he
  have HE : Hid (∀ x (q : Nat), q < ys.length → -9223372036854775808 ≤ x ∧ x ≤ 9223372036854775807 → Nts (w2.setCell ⟨b0, q, none⟩ (.int .i64 x)) (.slice (some ⟨b0, 0, none⟩) ys.length cap0) (ys.set q x) ∧ Frm (fun b => b = g ∨ S b) w (w2.setCell ⟨b0, q, none⟩ (.int .i64 x))) := fun x q hq hx => by
    obtain ⟨s1, s2⟩ := hset q x hq
    exact ⟨s1.nts (bnd_set hy q x hx), hF.trans (s2.mono fun b _ e => .inr e)⟩
  have hj : (j : Int) < (ys.length : Int) := hi1
  have hj' : j < ys.length := by omega
  obtain ⟨c1, c2⟩ := hcell j hj'
  obtain ⟨d1, d2⟩ := hcell 1 (by omega)
  have HNT : Hid (Nts w2 (.slice (some ⟨b0, 0, none⟩) ys.length cap0) ys) := hr2.nts hy
  have hcap7 : 7 ≤ cap0 := by omega
  have hl7 : (7 : Int) ≤ (ys.length : Int) := by omega
  have hl1 : (1 : Int) < (ys.length : Int) := by omega
  generalize ys.getD j 0 = vj at c1
  generalize ys.getD 1 0 = v1 at d1
  have HR : Hid (RowS S w2 (.slice (some ⟨b0, 0, none⟩) ys.length cap0) ys) := hr2
  clear hcell hset hr2
  by_cases h0 : k = 0
  · subst h0
    go_wp2
    refine bodyPost_ret (by simp [results, Tryd.results31, go_sem]; rfl) rfl ?_
    exact ⟨_, ys.take 7, rfl, by simp; omega, HNT.out.first 7 (by omega), hF⟩
  · have h0' : (k == 0) = false := by simpa using h0
    by_cases h1 : k = 1
    · subst h1
      go_wp2
      refine bodyPost_ret (by simp [results, Tryd.results31, go_sem]; rfl) rfl ?_
      obtain ⟨q1, q2⟩ := HE.out (-1) j hj' (by omega)
      exact ⟨_, ys.set j (-1), rfl, by simp; omega, q1, q2⟩
    · have h1' : (k == 1) = false := by simpa using h1
      by_cases h2 : k = 2
      · subst h2
        go_wp2
        refine bodyPost_ret (by simp [results, Tryd.results31, go_sem]; rfl) rfl ?_
        obtain ⟨q1, q2⟩ := HE.out 65536 j hj' (by omega)
        exact ⟨_, ys.set j 65536, rfl, by simp; omega, q1, q2⟩
      · have h2' : (k == 2) = false := by simpa using h2
        by_cases h3 : k = 3
        · subst h3
          go_wp2
          refine bodyPost_ret (by simp [results, Tryd.results31, go_sem]; rfl) rfl ?_
          obtain ⟨q1, q2⟩ := HE.out 1 1 (by omega) (by omega)
          exact ⟨_, ys.set 1 1, rfl, by simp; omega, q1, q2⟩
        · have h3' : (k == 3) = false := by simpa using h3
          have hyl : ys.length < 8589934592 := by omega
          by_cases h4 : k = 4
          · subst h4
            have hR := HR.out
            go_wp2_with (first | (at_builtin; refine wpList_appendS rfl _ _ rfl _ hR rfl rfl hyl hS2 ?_; intro v2 w3 hR2 hF2) | go_in)
            refine bodyPost_ret (by simp [results, Tryd.results31, go_sem]; rfl) rfl ?_
            exact ⟨_, _, rfl, by simp; omega, hR2.nts (bnd_more hy (by omega)), hF.trans (hF2.mono fun b _ e => .inr e)⟩
          · have h4' : (k == 4) = false := by simpa using h4
            go_wp2
            go_loopw [1] (fun u wr => ∃ xs : List Int, xs.length ≤ 513 ∧ (∀ i, -9223372036854775808 ≤ xs.getD i 0 ∧ xs.getD i 0 ≤ 9223372036854775807) ∧ RowS S wr u xs ∧ Frm (fun b => b = g ∨ S b) w wr ∧ w2.heap.size ≤ wr.heap.size) (fun u _ => match u with
              | .slice _ m _ => 513 - m
              | _ => 0)
            case atStart => exact ⟨ys, by omega, hy, HR.out, hF, Nat.le_refl _⟩
            case round =>
              obtain ⟨xs, hxl, hxb, hxr, hxf, hxs⟩ := hrel
              obtain ⟨ua, uc, rfl⟩ := hxr.shape
              have hxl2 : xs.length < 8589934592 := by omega
              by_cases hgo : xs.length ≤ 512
              · have hgo' : (xs.length : Int) ≤ 512 := by omega
                go_wp2_with (first | (at_builtin; refine wpList_appendS rfl _ _ rfl _ hxr rfl rfl hxl2 (fun b e => hS2 b (by omega)) ?_; intro v2 w3 hR2 hF2) | go_in)
                obtain ⟨va, vc, rfl⟩ := hR2.shape
                go_roundw
                case rel => exact ⟨xs ++ [1], by simp; omega, bnd_more hxb (by omega), hR2, hxf.trans (hF2.mono fun b _ e => .inr e), by have := hF2.size; omega⟩
                case measure => simp; omega
              · have hgo' : ¬ (xs.length : Int) ≤ 512 := by omega
                go_wp2
                refine bodyPost_ret (by simp [results, Tryd.results31, go_sem]; rfl) rfl ?_
                exact ⟨_, rfl, xs, hxl, hxr.nts hxb, hxf⟩
end Go.Proofs.YtamblkibmlfklabDoor
