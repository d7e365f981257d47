import Derived.Test.YtpjdhfbeofdplaaGreatDoorRn1
import Derived.Test.YtpjdhfbeofdplaaGreatDoorRunsP
import Derived.Test.YtpjdhfbeofdplaaGreatDoorNx
namespace Go.Proofs.YtpjdhfbeofdplaaGreatDoor
open Go.RowKit

theorem infoRun : (Tryz.prog.info? 57).map (fun i => (i.zero, i.size, i.bytes)) = some (some (.agg #[.int .i64 0, .int .i64 0, .int .i64 0]), 3, 24) := by kernel_rfl

/-- 'out = append(out, Run{..})' -/
theorem wpList_appendRun {ops : Array Oper} {rest : List Oper} {o : Oper} {a : Act} {Q : Exit → Act → World → Prop} (hgd : o.guard = none) (s x : Operand)
    (ho : o.op = .call { callee := .builtin .append, args := #[s, x], argTypes := #[58, 58] })
    {base : Nat} {w0 : World} {v : Value} {rs : List (Int × Int × Int)} (p q r : Int) (hown : RRow base w0 v rs) (hs : a.eval s = v) (hx : a.eval x = .slice (some ⟨w0.heap.size, 0, none⟩) 1 1)
    (hlen : rs.length < 1048576) (hb : base ≤ w0.heap.size)
    (h : ∀ v' w', RRow base w' v' (rs ++ [(p, q, r)]) → Below base w0 w' → w0.heap.size ≤ w'.heap.size → wpList Tryz.prog ops Q rest (a.put o.dst v') w') :
    wpList Tryz.prog ops Q (o :: rest) a (w0.alloc (.cells #[.int .i64 p, .int .i64 q, .int .i64 r] 57)) := by
  obtain ⟨i0, hi, hzz⟩ := Option.map_eq_some_iff.1 infoRun
  simp only [Prod.mk.injEq] at hzz
  obtain ⟨hz0, hz1, hz2⟩ := hzz
  refine wpList_append_own _ hgd s x 58 ho base 57 i0 _ 3 24 Tryz.underlying58 hi hz0 hz1 hz2 rfl (by decide) v _ _ hs (World.ownsRow.alloc hown _) ⟨w0.heap.size, 0, none⟩ 1 1 [.int .i64 p, .int .i64 q, .int .i64 r] hx rfl ?_ ?_ ?_ ?_ ?_ ?_
  · intro j u hj
    match j, hj with
    | 0, hj => simp at hj; subst hj; simp [Addr.add, World.cell?_alloc_at]
    | 1, hj => simp at hj; subst hj; simp [Addr.add, World.cell?_alloc_at]
    | 2, hj => simp at hj; subst hj; simp [Addr.add, World.cell?_alloc_at]
  · intro u hu; simp at hu; rcases hu with rfl | rfl | rfl <;> rfl
  · unfold maxLen; omega
  · omega
  · simp; omega
  · intro v' w' h1 h2 _
    have hb1 : Below base w0 w' := ((Below.refl base w0).alloc hb _).grown h2 (by simp; omega) (fun k hk => (hown.lt k hk).1)
    refine h v' w' ?_ hb1 (by have := h2.size; simp at this; omega)
    unfold RRow
    rw [flatR_append]
    simpa [flatR] using h1

/-- 'runs[len(runs)-1].Len++' -/
theorem RRow.bump {base : Nat} {w : World} {a : Option Addr} {cap : Nat} {pre : List (Int × Int × Int)} {x y z : Int} (h : RRow base w (.slice a (pre.length + 1) cap) (pre ++ [(x, y, z)])) :
    ∃ g, a = some ⟨g, 0, none⟩ ∧ base ≤ g ∧ g < w.heap.size ∧ w.cell? ⟨g, pre.length * 3 + 1, none⟩ = some (.int .i64 y) ∧ w.frozen? ⟨g, pre.length * 3 + 1, none⟩ = false ∧
      ∀ u, RRow base (w.setCell ⟨g, pre.length * 3 + 1, none⟩ (.int .i64 u)) (.slice a (pre.length + 1) cap) (pre ++ [(x, u, z)]) ∧ Below base w (w.setCell ⟨g, pre.length * 3 + 1, none⟩ (.int .i64 u)) := by
  have hl : (pre ++ [(x, y, z)]).length = pre.length + 1 := by simp
  have h' : w.ownsRow base 57 3 (.slice a (pre.length + 1) cap) (pre.length + 1) (flatR (pre ++ [(x, y, z)])) := by rw [← hl]; rw [← hl] at h; exact h
  have hlt := h'.lt
  rcases h'.2 with ⟨_, e⟩ | ⟨g, cap', cur, hv, e1, e2, e3⟩
  · omega
  · simp only [Value.slice.injEq, true_and] at hv
    obtain ⟨rfl, rfl⟩ := hv
    have hget := flatR_get (pre ++ [(x, y, z)]) pre.length (by simp)
    refine ⟨g, rfl, e1, (hlt g rfl).2, ?_, h'.frozenAt _, fun u => ?_⟩
    · rw [h'.cellAt _ (by omega), hget.2.1]; simp
    · obtain ⟨s1, s2⟩ := h'.stored (pre.length * 3 + 1) (.int .i64 u)
      refine ⟨?_, (Below.refl base w).setCell (p := ⟨g, pre.length * 3 + 1, none⟩) e1 _⟩
      have he : (flatR (pre ++ [(x, y, z)])).set (pre.length * 3 + 1) (.int .i64 u) = flatR (pre ++ [(x, u, z)]) := by
        rw [flatR_append, flatR_append, List.set_append_right _ _ (by rw [flatR_length]; omega), flatR_length, show pre.length * 3 + 1 - pre.length * 3 = 1 by omega]
        rfl
      rw [he] at s1
      unfold RRow
      rw [show (pre ++ [(x, u, z)]).length = pre.length + 1 by simp]
      exact s1

theorem belowA' (w : World) (o : Obj) : Below w.heap.size w (w.alloc o) := (Below.refl _ _).alloc (Nat.le_refl _) _

/-- the count before block k -/
def bfr (zs : List Int) (k : Nat) : Int := if k = 0 then 0 else zs.getD (k - 1) 0
theorem bfr_succ (zs : List Int) (k : Nat) : bfr zs (k + 1) = zs.getD k 0 := by simp [bfr]

theorem rns_more' (zs : List Int) (k : Nat) (h : zs.getD k 0 ≠ 0) (he : zs.getD k 0 = bfr zs k) :
    ∃ (pre : List (Int × Int × Int)) (a b c : Int), rns zs k = pre ++ [(a, b, c)] ∧ rns zs (k + 1) = pre ++ [(a, b + 1, c)] ∧ 0 ≤ b ∧ b ≤ k := by
  match k with
  | 0 => exact absurd he h
  | k + 1 =>
    rw [bfr_succ] at he
    obtain ⟨pre, a, b, c, h1, h2, h3, h4⟩ := rns_more zs k h he.symm
    exact ⟨pre, a, b, c, h1, h2, h3, by omega⟩

set_option maxHeartbeats 2000000 in
theorem runsIn_any (v : Value) (zs : List Int) (w : World) (hv : Nts w v zs) (hl : zs.length ≤ 512) :
    Calls Tryz.prog 28 #[v] w fun e w' => ∃ u, e = .returned u ∧ RRow w.heap.size w' u (rns zs zs.length) ∧ Below w.heap.size w w' := by
  obtain ⟨a, cap, rfl, hc⟩ := hv.shape
  go_enter Tryz.func28, Tryz.ntmps28
  go_wp2
  go_loopw [3, 4, 9] (fun u bf i wr => ∃ k : Nat, k ≤ zs.length ∧ i = .int .i64 k ∧ bf = .int .i64 (bfr zs k) ∧ RRow w.heap.size wr u (rns zs k) ∧ Below w.heap.size w wr) (fun _ _ i _ => zs.length - (intOf i).toNat)
  case atStart => exact ⟨0, Nat.zero_le _, rfl, rfl, RRow.start _ _, Below.refl _ _⟩
  case round =>
    obtain ⟨k, hk, rfl, rfl, hR, hb⟩ := hrel
    have hrl := rns_length zs k
    obtain ⟨ua, uc, hua⟩ := hR.shape
    subst hua
    have hsz := hb.size
    by_cases hlt : k < zs.length
    · obtain ⟨b, off, rfl, hcell⟩ := hc (by omega)
      have hbw : b < w.heap.size := World.block_lt_of_cell? _ _ (hcell 0 (by omega))
      have g1 : wr.cell? ⟨b, off + k, none⟩ = some (.int .i64 (zs.getD k 0)) := (hb.cell (p := ⟨b, off + k, none⟩) hbw).trans (hcell k hlt)
      have HB : Hid (bfr zs (k + 1) = zs.getD k 0) := bfr_succ zs k
      clear hc hcell hv
      by_cases h0 : zs.getD k 0 = 0
      · have HR : Hid (rns zs (k + 1) = rns zs k) := rns_zero zs k h0
        rw [h0] at g1 HB
        clear h0
        go_wp2
        go_roundw
        case rel => exact ⟨k + 1, by omega, by go_num, by rw [HB.out], by rw [HR.out]; exact hR, hb⟩
        case measure => simp [intOf]; omega
      · have hn0 : (zs.getD k 0 == 0) = false := by simpa using h0
        by_cases he : zs.getD k 0 = bfr zs k
        · obtain ⟨pre, x, y, z, e1, e2, hy0, hy1⟩ := rns_more' zs k h0 he
          have HR2 : Hid (rns zs (k + 1) = pre ++ [(x, y + 1, z)]) := e2
          have hln : (rns zs k).length = pre.length + 1 := by rw [e1]; simp
          rw [hln] at hR hrl
          rw [hln]
          rw [e1] at hR
          rw [← he]
          obtain ⟨g, rfl, hg1, hg2, c1, c2, hbump⟩ := hR.bump
          have HU : Hid _ := hbump (y + 1)
          have hee : (zs.getD k 0 == zs.getD k 0) = true := by simp
          have hpl : (pre.length : Int) < ((pre.length + 1 : Nat) : Int) := by omega
          generalize zs.getD k 0 = zk at *
          clear hR hbump he h0 e1 e2 hln
          go_wp2
          go_roundw
          case rel => exact ⟨k + 1, by omega, by go_num, by rw [HB.out], by rw [HR2.out]; exact HU.out.1, hb.trans HU.out.2⟩
          case measure => simp [intOf]; omega
        · have hne : (zs.getD k 0 == bfr zs k) = false := by simpa using he
          have HR2 : Hid (rns zs (k + 1) = rns zs k ++ [((k : Int), 1, zs.getD k 0)]) := rns_new zs k h0 (by
            unfold bfr at he
            by_cases hk0 : k = 0
            · exact .inl hk0
            · rw [if_neg hk0] at he; exact .inr (Ne.symm he))
          have hrl2 : (rns zs k).length < 1048576 := by omega
          generalize zs.getD k 0 = zk at *
          generalize bfr zs k = bk at *
          clear h0 he
          go_wp2_with (first | (at_builtin; refine wpList_appendRun rfl _ _ rfl _ _ _ hR rfl rfl hrl2 hsz ?_; intro v' w1 hR1 hb1 hs1) | go_in)
          rw [← HR2.out] at hR1
          go_roundw
          case rel => exact ⟨k + 1, by omega, by go_num, by rw [HB.out], hR1, hb.trans hb1⟩
          case measure => simp [intOf]; omega
    · have hke : k = zs.length := by omega
      subst hke
      clear hc hv
      go_wp2
      go_ret
      exact ⟨_, rfl, hR, hb⟩

theorem st_no {zs : List Int} {i : Nat} (h : ¬ (zs.getD i 0 ≠ 0 ∧ (i = 0 ∨ zs.getD (i - 1) 0 ≠ zs.getD i 0))) : st zs i = false := by
  rw [← Bool.not_eq_true, st_iff]; exact h

end Go.Proofs.YtpjdhfbeofdplaaGreatDoor
