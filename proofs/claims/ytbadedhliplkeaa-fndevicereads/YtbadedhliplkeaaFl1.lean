import Derived.Test.YtbadedhliplkeaaRd3
import Derived.Deep.RegionHeld3
import Derived.Lib.SliceRun
import Derived.Laws.CopyOwn
namespace Go.Proofs.Ytbadedhliplkeaa
open Go.RowKit

/-- w' is w but for the blocks in S -/
structure Frm (S : Nat → Prop) (w w' : World) : Prop where
  os : w'.os = w.os
  tape : w'.tape = w.tape
  output : w'.output = w.output
  size : w.heap.size ≤ w'.heap.size
  block : ∀ k, k < w.heap.size → ¬ S k → w'.heap[k]? = w.heap[k]?

theorem Frm.refl (S : Nat → Prop) (w : World) : Frm S w w := ⟨rfl, rfl, rfl, Nat.le_refl _, fun _ _ _ => rfl⟩
theorem Frm.trans {S : Nat → Prop} {a b c : World} (h : Frm S a b) (k : Frm S b c) : Frm S a c :=
  ⟨k.os.trans h.os, k.tape.trans h.tape, k.output.trans h.output, Nat.le_trans h.size k.size, fun i hi hn => (k.block i (Nat.lt_of_lt_of_le hi h.size) hn).trans (h.block i hi hn)⟩
theorem Frm.of_below {S : Nat → Prop} {w w' : World} (h : Below w.heap.size w w') : Frm S w w' := ⟨h.os, h.tape, h.output, h.size, fun k hk _ => h.block k hk⟩
theorem Frm.below {S : Nat → Prop} {w w' : World} {B : Nat} (h : Frm S w w') (hB : B ≤ w.heap.size) (hS : ∀ k, S k → B ≤ k) : Below B w w' :=
  ⟨h.os, h.tape, h.output, h.size, fun k hk => h.block k (by omega) (fun hs => by have := hS k hs; omega)⟩
theorem Frm.setCell {S : Nat → Prop} {a w : World} (h : Frm S a w) {p : Addr} (hp : S p.block) (u : Value) : Frm S a (w.setCell p u) :=
  h.trans ⟨rfl, rfl, rfl, by simp, fun k _ hn => Below.heap_setCell w p u k (fun e => hn (e ▸ hp))⟩
theorem Frm.wider {S S' : Nat → Prop} {w w' : World} (h : Frm S w w') (hs : ∀ k, S k → S' k) : Frm S' w w' := ⟨h.os, h.tape, h.output, h.size, fun k hk hn => h.block k hk (fun e => hn (hs k e))⟩

/-- a row of the call's own, written out: the value leads to the head of block g -/
structure RowAt (w : World) (g : Nat) (v : Value) (zs : List Int) : Prop where
  shape : ∃ cap cur, v = .slice (some ⟨g, 0, none⟩) zs.length cap ∧ w.heap[g]? = some (.cells cur 5 (0, 0)) ∧ zs.length ≤ cap ∧ cap ≤ maxLen ∧ cur.size = cap ∧ cur.toList.take zs.length = zs.map (Value.int .u8)
  small : ∀ i, 0 ≤ zs.getD i 0 ∧ zs.getD i 0 < 256

theorem RowAt.lt {w : World} {g : Nat} {v : Value} {zs : List Int} (h : RowAt w g v zs) : g < w.heap.size := by
  obtain ⟨_, _, _, hg, _⟩ := h.shape
  by_cases hh : g < w.heap.size
  · exact hh
  · simp [show w.heap.size ≤ g by omega] at hg

theorem RowAt.block {w w' : World} {g : Nat} {v : Value} {zs : List Int} (h : RowAt w g v zs) (hb : w'.heap[g]? = w.heap[g]?) : RowAt w' g v zs := by
  obtain ⟨cap, cur, h1, h2, h3⟩ := h.shape
  exact ⟨⟨cap, cur, h1, hb.trans h2, h3⟩, h.small⟩

theorem RowAt.below {w w' : World} {g : Nat} {v : Value} {zs : List Int} (h : RowAt w g v zs) (k : Below w.heap.size w w') : RowAt w' g v zs := h.block (k.block g h.lt)

theorem RowAt.own {w : World} {g : Nat} {v : Value} {zs : List Int} (h : RowAt w g v zs) : Own8 g (g + 1) w v zs := by
  have hlt := h.lt
  obtain ⟨cap, cur, rfl, h2, h3, h4, h5, h6⟩ := h.shape
  refine ⟨h.small, _, cap, rfl, fun hp => ⟨g, 0, rfl, Nat.le_refl _, Nat.lt_succ_self _, hlt, fun i hi => ?_⟩⟩
  rw [Nat.zero_add, cell_of_row w g i cur _ (0, 0) h2]
  refine ⟨?_, frozen_of_row w g i cur _ h2⟩
  have e : (cur.toList.take zs.length)[i]? = (zs.map (Value.int .u8))[i]? := by rw [h6]
  rw [List.getElem?_take, if_pos hi] at e
  simp only [Array.getElem?_toList] at e
  rw [e]; simp [hi]

theorem RowAt.of_row {base : Nat} {w : World} {v : Value} {zs : List Int} (h : Row8 base w v zs) (hz : ∀ i, 0 ≤ zs.getD i 0 ∧ zs.getD i 0 < 256) (hp : 0 < zs.length) : ∃ g, base ≤ g ∧ RowAt w g v zs := by
  rcases h.2 with ⟨hv, hn⟩ | ⟨g, cap, cur, hv, hbg, hg, hnc, hcm, hcs, htake⟩
  · omega
  · refine ⟨g, hbg, ⟨cap, cur, hv, hg, hnc, hcm, by omega, by rw [Nat.mul_one] at htake; exact htake⟩, hz⟩

/-- 'append(out, src...)' of bytes -/
theorem wpList_append8s {ops : Array Oper} {rest : List Oper} {o : Oper} {a : Act} {w : World} {Q : Exit → Act → World → Prop} (hgd : o.guard = none) (s x : Operand)
    (ho : o.op = .call { callee := .builtin .append, args := #[s, x], argTypes := #[22, 22] })
    {base : Nat} {v : Value} {zs ys : List Int} (hown : Row8 base w v zs) {ad : Addr} {n c : Nat} (hn : ys.length = n) (hsrc : ∀ i, i < n → w.cell? (ad.add i) = some (.int .u8 (ys.getD i 0))) (hs : a.eval s = v) (hx : a.eval x = .slice (some ad) n c)
    (hlen : zs.length + n < 140737488355328) (hb : base ≤ w.heap.size)
    (h : ∀ v' w', Row8 base w' v' (zs ++ ys) → Below base w w' → wpList Try.prog ops Q rest (a.put o.dst v') w') :
    wpList Try.prog ops Q (o :: rest) a w := by
  obtain ⟨i0, hi, hz0, hz1, hz2⟩ := info_parts info8
  refine wpList_append_own _ hgd s x 22 ho base 5 i0 (.int .u8 0) 1 1 Try.underlying22 hi hz0 hz1 hz2 rfl (by decide) v _ _ hs hown ad n c (ys.map (Value.int .u8)) hx (by simp [hn]) ?_ ?_ ?_ ?_ hb ?_
  · intro j u hj
    have hjl : j < ys.length := by
      by_cases hh : j < ys.length
      · exact hh
      · simp [show ys.length ≤ j by omega] at hj
    rw [hsrc j (by omega)]
    simp only [List.getElem?_map, List.getElem?_eq_getElem hjl, Option.map_some, Option.some.injEq] at hj
    rw [← hj]; simp [hjl]
  · intro u hu
    simp only [List.mem_map] at hu
    obtain ⟨z, _, rfl⟩ := hu
    rfl
  · unfold maxLen; omega
  · omega
  · intro v' w' h1 h2 _
    refine h v' w' ?_ ((Below.refl base w).grown h2 hb (fun k hk => (hown.lt k hk).1))
    unfold Row8
    simpa [hn] using h1

set_option maxHeartbeats 1000000 in
theorem clone_any (b off n cap : Nat) (zs : List Int) (w : World) (hz : zs.length = n) (hp : 0 < n) (hn : n ≤ 1048576) (hv : Bts w (.slice (some ⟨b, off, none⟩) n cap) zs) :
    Calls Try.prog 60 #[.slice (some ⟨b, off, none⟩) n cap] w fun e w' => ∃ v g, e = .returned v ∧ w.heap.size ≤ g ∧ RowAt w' g v zs ∧ Below w.heap.size w w' := by
  have hnil := fun w => Lib.run_eql_slice_nil (P := Try.prog) w 22 5 (some ⟨b, off, none⟩) n cap 0 0 Try.underlying22
  have hsh := hv.shape
  obtain ⟨_, _, he, hc⟩ := hsh
  simp only [Value.slice.injEq] at he
  obtain ⟨rfl, -, rfl⟩ := he
  obtain ⟨_, _, he, hcell⟩ := hc (by omega)
  simp only [Option.some.injEq, Addr.mk.injEq, and_true] at he
  obtain ⟨rfl, rfl⟩ := he
  have hrow := Row8.lit w.heap.size w (Nat.le_refl _) w.heap.size rfl
  have hsrc : ∀ i, i < n → (w.alloc (.cells #[] 5)).cell? ((⟨b, off, none⟩ : Addr).add i) = some (.int .u8 (zs.getD i 0)) := fun i hi => by
    rw [Addr.add_mid, World.cell?_alloc_past _ _ _ (World.block_lt_of_cell? _ _ (hcell i (by omega)))]
    exact hcell i (by omega)
  have hsm := hv.small
  have hbA := belowA w (.cells #[] 5)
  clear hc hcell hv
  go_enter Try.func60, Try.ntmps60
  go_wp2_with (at_builtin; refine wpList_append8s rfl _ _ rfl hrow hz hsrc rfl rfl (by simp; omega) (by simp) ?_; intro v' w1 hown1 hbel1)
  go_ret
  rw [List.nil_append] at hown1
  obtain ⟨g, h1, h2⟩ := RowAt.of_row hown1 hsm (by omega)
  exact ⟨v', g, rfl, h1, h2, hbA.trans hbel1⟩
end Go.Proofs.Ytbadedhliplkeaa
