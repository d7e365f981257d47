import Derived.Test.YtbadedhliplkeaaFl7
import Derived.Deep.Slices
namespace Go.Proofs.Ytbadedhliplkeaa
open Go.RowKit

/-- 'out = append(out, e)' of a Pending -/
theorem wpList_appendP {ops : Array Oper} {rest : List Oper} {o : Oper} {a : Act} {Q : Exit → Act → World → Prop} (hgd : o.guard = none) (s x : Operand)
    (ho : o.op = .call { callee := .builtin .append, args := #[s, x], argTypes := #[23, 23] })
    {base : Nat} {w0 : World} {v : Value} {n : Nat} {xs : List Value} (c0 c1 : Value) (h1 : c0.oneCell' = true ∧ c1.oneCell' = true) (hown : w0.ownsRow base 38 2 v n xs) (hs : a.eval s = v) (hx : ∃ g, a.eval x = .slice (some ⟨g, 0, none⟩) 1 1 ∧ g = w0.heap.size)
    (hlen : n < 1048576) (hb : base ≤ w0.heap.size)
    (h : ∀ v' w', w'.ownsRow base 38 2 v' (n + 1) (xs ++ [c0, c1]) → Below base w0 w' → w0.heap.size ≤ w'.heap.size → wpList Try.prog ops Q rest (a.put o.dst v') w') :
    wpList Try.prog ops Q (o :: rest) a (w0.alloc (.cells #[c0, c1] 38)) := by
  obtain ⟨i0, hi, hzz⟩ := Option.map_eq_some_iff.1 infoPend
  simp only [Prod.mk.injEq] at hzz
  obtain ⟨hz0, hz1, hz2⟩ := hzz
  obtain ⟨_, hx, rfl⟩ := hx
  refine wpList_append_own _ hgd s x 23 ho base 38 i0 _ 2 32 Try.underlying23 hi hz0 hz1 hz2 rfl (by decide) v _ _ hs (hown.alloc _) ⟨w0.heap.size, 0, none⟩ 1 1 [c0, c1] hx rfl ?_ ?_ ?_ ?_ ?_ ?_
  · intro j u hj
    match j, hj with
    | 0, hj => simp at hj; subst hj; simp [Addr.add, World.cell?_alloc_at]
    | 1, hj => simp at hj; subst hj; simp [Addr.add, World.cell?_alloc_at]
  · intro u hu
    simp at hu
    rcases hu with rfl | rfl
    · exact h1.1
    · exact h1.2
  · unfold maxLen; omega
  · omega
  · simp; omega
  · intro v' w' h1 h2 _
    have hb1 : Below base w0 w' := ((Below.refl base w0).alloc hb _).grown h2 (by simp; omega) (fun k hk => (hown.lt k hk).1)
    exact h v' w' h1 hb1 (by have := h2.size; simp at this; omega)

/-- the indices of the survivors among the first k -/
def keptIx (ks : List Int) (k : Nat) : List Nat := (List.range k).filter (kept false ks)
/-- the cells of the survivors -/
def keptCells (ks : List Int) (ps : List (Int × List Int)) (V : Nat → Value) (k : Nat) : List Value := (keptIx ks k).flatMap fun i => [.int .i64 (ps.getD i (0, [])).1, V i]

theorem keptIx_succ (ks : List Int) (k : Nat) : keptIx ks (k + 1) = if kept false ks k = true then keptIx ks k ++ [k] else keptIx ks k := by
  unfold keptIx
  rw [List.range_succ, List.filter_append]
  by_cases h : kept false ks k = true <;> simp [h]

theorem keptCells_succ (ks : List Int) (ps : List (Int × List Int)) (V : Nat → Value) (k : Nat) : keptCells ks ps V (k + 1) = if kept false ks k = true then keptCells ks ps V k ++ [.int .i64 (ps.getD k (0, [])).1, V k] else keptCells ks ps V k := by
  unfold keptCells
  rw [keptIx_succ]
  by_cases h : kept false ks k = true <;> simp [h]

theorem keptIx_len (ks : List Int) (k : Nat) : (keptIx ks k).length ≤ k := by
  unfold keptIx
  have := List.length_filter_le (kept false ks) (List.range k)
  simpa using this

theorem keptTo_ix (ks : List Int) (ps : List (Int × List Int)) (k : Nat) : keptTo false ks ps k = (keptIx ks k).map fun i => ps.getD i (0, []) := rfl

theorem flat2_get (l : List Nat) (f g : Nat → Value) (i : Nat) (h : i < l.length) : (l.flatMap fun j => [f j, g j])[i * 2]? = some (f (l.getD i 0)) ∧ (l.flatMap fun j => [f j, g j])[i * 2 + 1]? = some (g (l.getD i 0)) := by
  induction l generalizing i with
  | nil => simp at h
  | cons x r ih =>
    match i with
    | 0 => simp
    | i + 1 =>
      have := ih i (by simpa using h)
      simp only [List.flatMap_cons, List.getD_cons_succ]
      rw [show (i + 1) * 2 = i * 2 + 2 by omega]
      simpa using this

/-- the survivors out of their row -/
theorem kept_off {S : Nat → Prop} {base : Nat} {w : World} {v : Value} {ks : List Int} {ps : List (Int × List Int)} {V : Nat → Value} (hown : w.ownsRow base 38 2 v (keptIx ks ps.length).length (keptCells ks ps V ps.length)) (hS : ∀ k, base ≤ k → ¬ S k)
    (hV : ∀ i, i < ps.length → ∃ da dc, V i = .slice da (ps.getD i (0, [])).2.length dc ∧ BtsOff S w (V i) (ps.getD i (0, [])).2) : POff S w v (keptTo false ks ps ps.length) ∧ ∃ a c, v = .slice a (keptTo false ks ps ps.length).length c := by
  have hlen : (keptTo false ks ps ps.length).length = (keptIx ks ps.length).length := by rw [keptTo_ix]; simp
  have hform : ∃ a c, v = .slice a (keptTo false ks ps ps.length).length c := by
    rw [hlen]
    rcases hown.2 with ⟨hv, hn⟩ | ⟨g, cap, cur, hv, _⟩
    · exact ⟨none, 0, by rw [hv, hn]⟩
    · exact ⟨_, _, hv⟩
  refine ⟨?_, hform⟩
  obtain ⟨a, c, rfl⟩ := hform
  refine ⟨a, c, rfl, fun hp => ?_⟩
  rcases hown.2 with ⟨hv, hn⟩ | ⟨g, cap, cur, hv, hbg, hg, _⟩
  · omega
  · simp only [Value.slice.injEq] at hv
    obtain ⟨rfl, _, rfl⟩ := hv
    refine ⟨g, 0, rfl, hS g hbg, fun i hi => ?_⟩
    rw [hlen] at hi
    rw [hlen] at hown
    have h0 := hown.cellAt (i * 2) (by omega)
    have h1 := hown.cellAt (i * 2 + 1) (by omega)
    obtain ⟨e0, e1⟩ := flat2_get (keptIx ks ps.length) (fun i => .int .i64 (ps.getD i (0, [])).1) V i hi
    have hj : (keptIx ks ps.length).getD i 0 < ps.length := by
      have hm : (keptIx ks ps.length)[i] ∈ keptIx ks ps.length := List.getElem_mem hi
      rw [List.getD_eq_getElem?_getD, List.getElem?_eq_getElem hi]
      unfold keptIx at hm
      rw [List.mem_filter, List.mem_range] at hm
      exact hm.1
    have hget : (keptTo false ks ps ps.length).getD i (0, []) = ps.getD ((keptIx ks ps.length).getD i 0) (0, []) := by
      rw [keptTo_ix]; simp [hi]
    rw [hget]
    obtain ⟨da, dc, hVi, hB⟩ := hV _ hj
    refine ⟨da, dc, ?_, ?_, by rw [← hVi]; exact hB⟩
    · rw [Nat.zero_add, h0]; exact e0
    · rw [Nat.zero_add, h1, ← hVi]; exact e1

set_option maxHeartbeats 4000000 in
theorem survivors_any (S : Nat → Prop) (ks : List Int) (ca ka : Option Addr) (cc kc : Nat) (ps : List (Int × List Int)) (w : World) (hc : POff S w (.slice ca ps.length cc) ps) (hS : ∀ k, w.heap.size ≤ k → ¬ S k) (hkv : Bts w (.slice ka ks.length kc) ks) (hkl : ks.length ≤ 1048576) (hpl : ps.length ≤ 2048) :
    Calls Try.prog 48 #[.slice ca ps.length cc, .slice ka ks.length kc] w fun e w' => ∃ a c, e = .returned (.slice a (keptTo false ks ps ps.length).length c) ∧ POff S w' (.slice a (keptTo false ks ps ps.length).length c) (keptTo false ks ps ps.length) ∧ Below w.heap.size w w' := by
  obtain ⟨_, _, he, hpc⟩ := id hc
  simp only [Value.slice.injEq, true_and] at he
  obtain ⟨rfl, rfl⟩ := he
  obtain ⟨V, hV⟩ : ∃ V : Nat → Value, ∀ i, i < ps.length → (∃ da dc, V i = .slice da (ps.getD i (0, [])).2.length dc) ∧ BtsOff S w (V i) (ps.getD i (0, [])).2 ∧ ∃ b off, ca = some ⟨b, off, none⟩ ∧ w.cell? ⟨b, off + i * 2, none⟩ = some (.int .i64 (ps.getD i (0, [])).1) ∧ w.cell? ⟨b, off + i * 2 + 1, none⟩ = some (V i) := by
    refine Go.Deep.choose_lt (α := Value) (n := ps.length) (p := fun i v => (∃ da dc, v = .slice da (ps.getD i (0, [])).2.length dc) ∧ BtsOff S w v (ps.getD i (0, [])).2 ∧ ∃ b off, ca = some ⟨b, off, none⟩ ∧ w.cell? ⟨b, off + i * 2, none⟩ = some (.int .i64 (ps.getD i (0, [])).1) ∧ w.cell? ⟨b, off + i * 2 + 1, none⟩ = some v) (fun i hi => ?_)
    obtain ⟨b, off, hca, _, hcell⟩ := hpc (by omega)
    obtain ⟨da, dc, g1, g2, g3⟩ := hcell i hi
    exact ⟨_, ⟨da, dc, rfl⟩, g3, b, off, hca, g1, g2⟩
  have hrow0 := World.ownsRow_nil w w.heap.size 38 2
  clear hpc hc
  go_enter Try.func48, Try.ntmps48
  go_wp2
  go_loopw [5, 6, 7, 10] (fun u _ _ i wr => ∃ k : Nat, k ≤ ps.length ∧ i = .int .i64 k ∧ wr.ownsRow w.heap.size 38 2 u (keptIx ks k).length (keptCells ks ps V k) ∧ Below w.heap.size w wr) (fun _ _ _ i _ => ps.length - (intOf i).toNat)
  case atStart => exact ⟨0, Nat.zero_le _, rfl, hrow0, Below.refl _ _⟩
  case round =>
    obtain ⟨k, hk, rfl, hown, hbel⟩ := hrel
    clear hrow0
    have hlk := keptIx_len ks k
    have hsz := hbel.size
    by_cases hlt : k < ps.length
    · obtain ⟨⟨da, dc, hVk⟩, -, b, off, rfl, g1, g2⟩ := hV k hlt
      have hbw := World.block_lt_of_cell? _ _ g1
      rw [← hbel.cell (p := ⟨b, off + k * 2, none⟩) hbw] at g1
      rw [← hbel.cell (p := ⟨b, off + k * 2 + 1, none⟩) hbw, hVk] at g2
      have HY : Hid (kept false ks k = true → keptCells ks ps V (k + 1) = keptCells ks ps V k ++ [.int .i64 (ps.getD k (0, [])).1, .slice da (ps.getD k (0, [])).2.length dc] ∧ (keptIx ks (k + 1)).length = (keptIx ks k).length + 1) := fun hh => by
        rw [keptCells_succ, if_pos hh, keptIx_succ, if_pos hh, hVk]; simp
      have HN : Hid (kept false ks k = false → keptCells ks ps V (k + 1) = keptCells ks ps V k ∧ (keptIx ks (k + 1)).length = (keptIx ks k).length) := fun hh => by
        have hh' : ¬ kept false ks k = true := by simp [hh]
        rw [keptCells_succ, if_neg hh', keptIx_succ, if_neg hh']; simp
      generalize ps.getD k (0, []) = e at g1 g2 HY HN
      obtain ⟨r, ds⟩ := e
      simp only at g1 g2 HY HN
      have hbA := belowA wr (.cells #[.int .i64 r, .slice da ds.length dc] 38)
      have hbelA := hbel.trans (hbA.mono hbel.size)
      have hownA := hown.alloc (.cells #[.int .i64 r, .slice da ds.length dc] 38)
      have hszA : w.heap.size ≤ (wr.alloc (.cells #[.int .i64 r, .slice da ds.length dc] 38)).heap.size := by simp; omega
      have hln : (keptIx ks k).length < 1048576 := by omega
      clear hVk hV
      by_cases h8 : k / 8 < ks.length
      · have h8' : (k : Int) / 8 < (ks.length : Int) := by omega
        have hksh := hkv.shape
        obtain ⟨_, _, he, hkd⟩ := hksh
        simp only [Value.slice.injEq, true_and] at he
        obtain ⟨rfl, rfl⟩ := he
        obtain ⟨kb, ko, rfl, hke⟩ := hkd (by omega)
        have hkb := hke (k / 8) h8
        have kk : wr.cell? ⟨kb, ko + k / 8, none⟩ = some (.int .u8 (ks.getD (k / 8) 0)) := (hbel.cell (p := ⟨kb, ko + k / 8, none⟩) (World.block_lt_of_cell? _ _ hkb)).trans hkb
        have hkbl : kb < wr.heap.size := World.block_lt_of_cell? _ _ kk
        have hks := hkv.small (k / 8)
        have hy2 := fun hh => HY.out (bit_yes h8 hh)
        have hn2 := fun hh => HN.out (bit_no h8 hh)
        have HY2 : Hid _ := hy2
        have HN2 : Hid _ := hn2
        clear hkd hke hkb hy2 hn2 HY HN hown hbel
        go_wp2_with (first | (at_builtin; refine wpList_appendP rfl _ _ rfl (.int .i64 r) (.slice da ds.length dc) ⟨rfl, rfl⟩ hownA rfl ⟨_, rfl, by simp⟩ hln hszA ?_; intro v' w3 hown3 hbel3 hsz3) | go_in)
        · have hb4 := hbelA.trans hbel3
          go_roundw
          case rel =>
            obtain ⟨q1, q2⟩ := HY2.out (by assumption)
            exact ⟨k + 1, by omega, by go_num, by rw [q1, q2]; exact hown3, hb4⟩
          case measure => simp [intOf]; omega
        · go_roundw
          case rel =>
            obtain ⟨q1, q2⟩ := HN2.out (by assumption)
            exact ⟨k + 1, by omega, by go_num, by rw [q1, q2]; exact hownA, hbelA⟩
          case measure => simp [intOf]; omega
      · have h8' : ¬ (k : Int) / 8 < (ks.length : Int) := by omega
        obtain ⟨q1, q2⟩ := HN.out (bit_out h8)
        have hown4 : (wr.alloc (.cells #[.int .i64 r, .slice da ds.length dc] 38)).ownsRow w.heap.size 38 2 u5 (keptIx ks (k + 1)).length (keptCells ks ps V (k + 1)) := by rw [q1, q2]; exact hownA
        clear q1 q2 HY HN hown hbel hownA
        go_wp2
        go_roundw
        case rel => exact ⟨k + 1, by omega, by go_num, hown4, hbelA⟩
        case measure => simp [intOf]; omega
    · have hke : k = ps.length := by omega
      have hF : Frm S w wr := Frm.of_below hbel
      rw [hke] at hown
      obtain ⟨hO, a, c, hv⟩ := kept_off hown hS (fun i hi => by
        obtain ⟨⟨da, dc, e1⟩, e2, _⟩ := hV i hi
        exact ⟨da, dc, e1, e2.frm hF⟩)
      subst hv
      clear hke hown hV
      go_wp2
      go_ret
      exact ⟨a, c, rfl, hO, hbel⟩
end Go.Proofs.Ytbadedhliplkeaa
