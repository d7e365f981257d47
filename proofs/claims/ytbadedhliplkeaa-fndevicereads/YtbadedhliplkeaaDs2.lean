import Derived.Test.YtbadedhliplkeaaDs1
import Derived.Maps.AppendAt
namespace Go.Proofs.Ytbadedhliplkeaa
open Go.RowKit
set_option linter.unusedVariables false

/-- v is a row of bytes of the call's own; it may be appended to; it lies in a block of S -/
def RowB (S : Nat → Prop) (w : World) (v : Value) (zs : List Int) : Prop := w.ownsRow 0 5 1 v zs.length (zs.map (Value.int .u8)) ∧ ∃ b, v.ownBlock = some b ∧ b < w.heap.size ∧ S b

theorem RowB.shape {S : Nat → Prop} {w : World} {v : Value} {zs : List Int} (h : RowB S w v zs) : ∃ a cap, v = .slice a zs.length cap := by
  rcases h.1.2 with ⟨hv, hn⟩ | ⟨g, cap, cur, hv, _⟩
  · exact ⟨none, 0, by rw [hv, hn]⟩
  · exact ⟨_, _, hv⟩
theorem RowB.frm {S T : Nat → Prop} {w w' : World} {v : Value} {zs : List Int} (h : RowB S w v zs) (k : Frm T w w') (hd : ∀ b, S b → ¬ T b) : RowB S w' v zs := by
  obtain ⟨h1, b, e, hb, hs⟩ := h
  refine ⟨⟨h1.1, ?_⟩, b, e, Nat.lt_of_lt_of_le hb k.size, hs⟩
  rcases h1.2 with q | ⟨g, cap, cur, hv, e1, e2, e3⟩
  · exact .inl q
  · subst hv
    simp [Value.ownBlock] at e
    subst e
    exact .inr ⟨g, cap, cur, rfl, e1, (k.block g hb (hd g hs)).trans e2, e3⟩
/-- its cells, and a store -/
theorem RowB.own {S : Nat → Prop} {w : World} {v : Value} {zs : List Int} (h : RowB S w v zs) (hz : ∀ i, 0 ≤ zs.getD i 0 ∧ zs.getD i 0 < 256) : ∃ b cap, v = .slice (some ⟨b, 0, none⟩) zs.length cap ∧ S b ∧ b < w.heap.size ∧ zs.length ≤ cap ∧ Own8 b (b + 1) w v zs ∧
    (∀ j, j < zs.length → w.cell? ⟨b, j, none⟩ = some (.int .u8 (zs.getD j 0)) ∧ w.frozen? ⟨b, j, none⟩ = false) ∧
    ∀ j x, j < zs.length → RowB S (w.setCell ⟨b, j, none⟩ (.int .u8 x)) v (zs.set j x) ∧ Frm (· = b) w (w.setCell ⟨b, j, none⟩ (.int .u8 x)) := by
  obtain ⟨h1, b, e, hb, hs⟩ := h
  rcases h1.2 with ⟨hv, _⟩ | ⟨g, cap, cur, hv, e1, e2, e3⟩
  · rw [hv] at e; simp [Value.ownBlock] at e
  · subst hv
    simp [Value.ownBlock] at e
    subst e
    have hcell : ∀ j, j < zs.length → w.cell? ⟨g, j, none⟩ = some (.int .u8 (zs.getD j 0)) ∧ w.frozen? ⟨g, j, none⟩ = false := fun j hj => ⟨by rw [h1.cellAt j (by omega)]; simp [hj], h1.frozenAt j⟩
    refine ⟨g, cap, rfl, hs, hb, e3.1, ⟨hz, _, _, rfl, fun _ => ⟨g, 0, rfl, Nat.le_refl _, Nat.lt_succ_self _, hb, fun i hi => by rw [Nat.zero_add]; exact hcell i hi⟩⟩, hcell, fun j x hj => ⟨⟨?_, g, rfl, by simpa [World.setCell] using hb, hs⟩, rfl, rfl, rfl, by simp [World.setCell], fun k _ hn => Below.heap_setCell _ _ _ _ hn⟩⟩
    obtain ⟨s1, _⟩ := h1.stored j (.int .u8 x)
    rw [List.length_set, List.map_set]
    exact s1
theorem RowB.lit (S : Nat → Prop) (w : World) (hS : S w.heap.size) : RowB S (w.alloc (.cells #[] 5)) (.slice (some ⟨w.heap.size, 0, none⟩) 0 0) [] :=
  ⟨World.ownsRow_lit (e := 5) (size := 1) w #[] 0 (Nat.zero_le _) (by decide) rfl, w.heap.size, rfl, by simp, hS⟩

/-- 'out = append(out, c)' -/
theorem wpList_appendB {ops : Array Oper} {rest : List Oper} {o : Oper} {a : Act} {Q : Exit → Act → World → Prop} (hgd : o.guard = none) (s x : Operand)
    (ho : o.op = .call { callee := .builtin .append, args := #[s, x], argTypes := #[22, 22] })
    {S : Nat → Prop} {w0 : World} {v : Value} {zs : List Int} (c : Int) (hown : RowB S w0 v zs) (hs : a.eval s = v) (hx : a.eval x = .slice (some ⟨w0.heap.size, 0, none⟩) 1 1)
    (hlen : zs.length < 8589934592) (hS : ∀ b, w0.heap.size ≤ b → S b)
    (h : ∀ v' w', RowB S w' v' (zs ++ [c]) → Frm S w0 w' → wpList Try.prog ops Q rest (a.put o.dst v') w') :
    wpList Try.prog ops Q (o :: rest) a (w0.alloc (.cells #[.int .u8 c] 5)) := by
  obtain ⟨i0, hi, hz0, hz1, hz2⟩ := info_parts info8
  obtain ⟨hown, b0, hb0, hbl, hSb⟩ := hown
  refine wpList_append_own_at _ hgd s x 22 ho 0 5 i0 (.int .u8 0) 1 1 Try.underlying22 hi hz0 hz1 hz2 rfl (by decide) v _ _ hs (hown.alloc _) ⟨w0.heap.size, 0, none⟩ 1 1 [.int .u8 c] hx rfl (cell_one_new _ _ _) ?_ ?_ ?_ (Nat.zero_le _) ?_
  · intro u hu; simp at hu; subst hu; rfl
  · unfold maxLen; omega
  · omega
  · intro v' w' h1 h2 _ h4
    have hA : Below w0.heap.size w0 (w0.alloc (.cells #[.int .u8 c] 5)) := (Below.refl _ _).alloc (Nat.le_refl _) _
    have hsz := h2.size
    simp only [World.size_alloc] at hsz
    refine h v' w' ⟨by simpa using h1, ?_⟩ ⟨h2.os.trans hA.os, h2.tape.trans hA.tape, h2.output.trans hA.output, by omega, fun k hk hn => (h2.block k (by simp; omega) fun e => hn (by rw [hb0] at e; simp at e; rw [e]; exact hSb)).trans (hA.block k hk)⟩
    rcases h4 with e' | e'
    · exact ⟨b0, e'.trans hb0, by omega, hSb⟩
    · have hlt := (h1.lt _ e').2
      exact ⟨_, e', hlt, hS _ (by simp)⟩

theorem byt_snoc {ys : List Int} (h : ∀ i, 0 ≤ ys.getD i 0 ∧ ys.getD i 0 < 256) {x : Int} (hx : 0 ≤ x ∧ x < 256) (i : Nat) : 0 ≤ (ys ++ [x]).getD i 0 ∧ (ys ++ [x]).getD i 0 < 256 := by
  by_cases h1 : i < ys.length
  · have := h i
    simp only [List.getD_eq_getElem?_getD, List.getElem?_append_left h1] at this ⊢
    exact this
  · by_cases h2 : i = ys.length
    · subst h2; simp; exact hx
    · have : (ys ++ [x]).getD i 0 = 0 := by simp [List.getElem?_eq_none (show (ys ++ [x]).length ≤ i by simp; omega)]
      rw [this]; omega
theorem byt_set {ys : List Int} (h : ∀ i, 0 ≤ ys.getD i 0 ∧ ys.getD i 0 < 256) (j : Nat) {x : Int} (hx : 0 ≤ x ∧ x < 256) (i : Nat) : 0 ≤ (ys.set j x).getD i 0 ∧ (ys.set j x).getD i 0 < 256 := by
  have hi := h i
  simp only [List.getD_eq_getElem?_getD, List.getElem?_set] at hi ⊢
  by_cases e : j = i
  · subst e
    rw [if_pos rfl]
    by_cases hj : j < ys.length
    · rw [if_pos hj]; exact hx
    · rw [if_neg hj]; simp
  · rw [if_neg e]; exact hi

/-- n drawn bytes -/
def dby (zs : List Int) (p : Nat × Int) (n : Nat) : List Int := (List.range n).map fun i => nxV zs (adv zs p i) 256
theorem dby_length (zs : List Int) (p : Nat × Int) (n : Nat) : (dby zs p n).length = n := by simp [dby]
theorem dby_snoc (zs : List Int) (p : Nat × Int) (n : Nat) : dby zs p (n + 1) = dby zs p n ++ [nxV zs (adv zs p n) 256] := by simp [dby, List.range_succ]

/-- what a draw of bytes keeps -/
structure DrB (base g : Nat) (a : Option Addr) (c : Nat) (zs : List Int) (w : World) (u : Value) (ys : List Int) (p : Nat × Int) (wr : World) : Prop where
  num : ∀ i, 0 ≤ ys.getD i 0 ∧ ys.getD i 0 < 256
  row : RowB (fun b => w.heap.size ≤ b) wr u ys
  src : SrcX base g a c zs p wr
  frm : Frm (fun b => b = g ∨ w.heap.size ≤ b) w wr
theorem DrB.drawn {base g : Nat} {a : Option Addr} {c : Nat} {zs : List Int} {w : World} {u : Value} {ys : List Int} {p p' : Nat × Int} {wr w' : World} (h : DrB base g a c zs w u ys p wr) (hg : g < w.heap.size) (hs : SrcX base g a c zs p' w') (hf : Frm (· = g) wr w') : DrB base g a c zs w u ys p' w' :=
  ⟨h.num, h.row.frm hf (fun b h1 h2 => by omega), hs, h.frm.trans (hf.mono fun b _ e => .inl e)⟩
theorem DrB.more {base g : Nat} {a : Option Addr} {c : Nat} {zs : List Int} {w : World} {u v' : Value} {ys : List Int} {p : Nat × Int} {wr w' : World} {x : Int} (h : DrB base g a c zs w u ys p wr) (hg : g < w.heap.size) (hb : base ≤ w.heap.size) (hx : 0 ≤ x ∧ x < 256) (hr : RowB (fun b => w.heap.size ≤ b) w' v' (ys ++ [x])) (hf : Frm (fun b => w.heap.size ≤ b) wr w') : DrB base g a c zs w v' (ys ++ [x]) p w' :=
  ⟨byt_snoc h.num hx, hr, h.src.frm hf (by omega) (fun b e => by omega), h.frm.trans (hf.mono fun b _ e => .inr e)⟩
theorem DrB.begin {base g : Nat} {a : Option Addr} {c : Nat} {zs : List Int} {w : World} {p : Nat × Int} (hs : SrcX base g a c zs p w) : DrB base g a c zs w (.slice (some ⟨w.heap.size, 0, none⟩) 0 0) [] p (w.alloc (.cells #[] 5)) := by
  have hA : Below w.heap.size w (w.alloc (.cells #[] 5)) := (Below.refl _ _).alloc (Nat.le_refl _) _
  exact ⟨fun i => by simp, RowB.lit _ w (Nat.le_refl _), hs.below hA, Frm.of_below hA⟩

set_option maxHeartbeats 2000000 in
theorem l1DrawBytes_x (base g : Nat) (a : Option Addr) (c : Nat) (zs : List Int) (p : Nat × Int) (n : Nat) (hn : n ≤ 1048576) (w : World) (hs : SrcX base g a c zs p w) :
    Calls Try.prog 59 #[.pointer (some ⟨g, 0, none⟩), .int .i64 n] w fun e w' => ∃ u, e = .returned u ∧ DrB base g a c zs w u (dby zs p n) (adv zs p n) w' := by
  have hg := hs.lt
  have hbase : base ≤ w.heap.size := by have := hs.lo; omega
  have hD0 := DrB.begin hs
  clear hs
  go_enter Try.func59, Try.ntmps59
  go_wp2
  go_loopw [5, 6] (fun u i wr => ∃ k : Nat, k ≤ n ∧ i = .int .i64 k ∧ DrB base g a c zs w u (dby zs p k) (adv zs p k) wr) (fun _ i _ => n - (intOf i).toNat)
  case atStart => exact ⟨0, Nat.zero_le _, rfl, hD0⟩
  case round =>
    obtain ⟨k, hk, rfl, hD⟩ := hrel
    clear hD0
    by_cases hlt : k < n
    · have hi : (k : Int) < (n : Int) := by omega
      have hyl : (dby zs p k).length < 8589934592 := by rw [dby_length]; omega
      have HY : Hid (dby zs p (k + 1) = dby zs p k ++ [nxV zs (adv zs p k) 256]) := dby_snoc zs p k
      have hin := nxV_in zs (adv zs p k) (n := 256) (by decide) (by decide)
      go_wp2_with fail
      refine (l1Next_x base g a c zs _ 256 (by decide) (by decide) _ hD.src).mono ?_
      rintro e w2 ⟨rfl, hs2, hf2⟩
      have hD2 := hD.drawn hg hs2 hf2
      clear hD hs2 hf2
      generalize nxV zs (adv zs p k) 256 = y at HY hin ⊢
      have hm : y % 256 = y := by omega
      have hR := hD2.row
      have hS := hD2.frm.size
      have HD : Hid _ := hD2
      clear hD2
      go_wp2_with (first | (at_builtin; refine wpList_appendB rfl _ _ rfl _ hR rfl rfl hyl (fun b e => by omega) ?_; intro v2 w3 hR2 hF2) | go_in)
      go_roundw
      case rel => exact ⟨k + 1, by omega, by go_num, by rw [HY.out]; exact HD.out.more hg hbase hin hR2 hF2⟩
      case measure => simp [intOf]; omega
    · have hi : ¬ (k : Int) < (n : Int) := by omega
      obtain rfl : k = n := by omega
      go_wp2
      refine bodyPost_ret (by simp [results, Try.results59, go_sem]; rfl) rfl ?_
      exact ⟨_, rfl, hD⟩

/-- the pattern of a drawn block -/
def dpt (m : Int) (k : Nat) : List Int := (List.range k).map fun (i : Nat) => (m + (i : Int) * 3) % 256
theorem dpt_length (m : Int) (k : Nat) : (dpt m k).length = k := by simp [dpt]
theorem dpt_snoc (m : Int) (k : Nat) : dpt m (k + 1) = dpt m k ++ [(m + (k : Int) * 3) % 256] := by simp [dpt, List.range_succ]
/-- a drawn block -/
def dbl (zs : List Int) (p : Nat × Int) : List Int := (dpt (nxV zs p 256) 128).set (nxV zs (nxS zs p) 128).toNat (nxV zs (nxS zs (nxS zs p)) 256)
theorem dbl_length (zs : List Int) (p : Nat × Int) : (dbl zs p).length = 128 := by simp [dbl, dpt_length]

set_option maxHeartbeats 2000000 in
theorem l1DrawBlock_x (base g : Nat) (a : Option Addr) (c : Nat) (zs : List Int) (p : Nat × Int) (w : World) (hs : SrcX base g a c zs p w) :
    Calls Try.prog 38 #[.pointer (some ⟨g, 0, none⟩)] w fun e w' => ∃ u, e = .returned u ∧ DrB base g a c zs w u (dbl zs p) (adv zs p 3) w' := by
  have hg := hs.lt
  have hbase : base ≤ w.heap.size := by have := hs.lo; omega
  have hD0 := DrB.begin hs
  have HDB : Hid (dbl zs p = (dpt (nxV zs p 256) 128).set (nxV zs (nxS zs p) 128).toNat (nxV zs (nxS zs (nxS zs p)) 256)) := rfl
  have hm0 := nxV_in zs p (n := 256) (by decide) (by decide)
  have hat := nxV_in zs (nxS zs p) (n := 128) (by decide) (by decide)
  have hb0 := nxV_in zs (nxS zs (nxS zs p)) (n := 256) (by decide) (by decide)
  have HADV : Hid (adv zs p 3 = nxS zs (nxS zs (nxS zs p))) := rfl
  clear hs
  go_enter Try.func38, Try.ntmps38
  go_wp2_with fail
  refine (l1Next_x base g a c zs p 256 (by decide) (by decide) _ hD0.src).mono ?_
  rintro e w1 ⟨rfl, hs1, hf1⟩
  have hD1 := hD0.drawn hg hs1 hf1
  clear hD0 hs1 hf1
  generalize nxV zs p 256 = m at HDB hm0 ⊢
  go_wp2
  go_loopw [3, 5] (fun u i wr => ∃ k : Nat, k ≤ 128 ∧ i = .int .i64 k ∧ DrB base g a c zs w u (dpt m k) (nxS zs p) wr) (fun _ i _ => 128 - (intOf i).toNat)
  case atStart => exact ⟨0, Nat.zero_le _, rfl, hD1⟩
  case round =>
    obtain ⟨k, hk, rfl, hD⟩ := hrel
    clear hD1
    by_cases hlt : k < 128
    · have hi : (k : Int) < 128 := by omega
      have hyl : (dpt m k).length < 8589934592 := by rw [dpt_length]; omega
      have HY : Hid (dpt m (k + 1) = dpt m k ++ [(m + (k : Int) * 3) % 256]) := dpt_snoc m k
      have hR := hD.row
      have hS := hD.frm.size
      have HD : Hid _ := hD
      clear hD
      go_wp2_with (first | (at_builtin; refine wpList_appendB rfl _ _ rfl _ hR rfl rfl hyl (fun b e => by omega) ?_; intro v2 w3 hR2 hF2) | go_in)
      go_roundw
      case rel => exact ⟨k + 1, by omega, by go_num, by rw [HY.out]; exact HD.out.more hg hbase (by omega) hR2 hF2⟩
      case measure => simp [intOf]; omega
    · have hi : ¬ (k : Int) < 128 := by omega
      obtain rfl : k = 128 := by omega
      go_wp2_with fail
      refine (l1Next_x base g a c zs _ 128 (by decide) (by decide) _ hD.src).mono ?_
      rintro e w2 ⟨rfl, hs2, hf2⟩
      have hD2 := hD.drawn hg hs2 hf2
      clear hD hs2 hf2
      go_wp2_with fail
      refine (l1Next_x base g a c zs _ 256 (by decide) (by decide) _ hD2.src).mono ?_
      rintro e w3 ⟨rfl, hs3, hf3⟩
      have hD3 := hD2.drawn hg hs3 hf3
      clear hD2 hs3 hf3
      obtain ⟨at0, hat0⟩ : ∃ at0 : Nat, nxV zs (nxS zs p) 128 = (at0 : Int) := ⟨(nxV zs (nxS zs p) 128).toNat, by omega⟩
      rw [hat0] at HDB hat
      rw [hat0]
      generalize nxV zs (nxS zs (nxS zs p)) 256 = y at HDB hb0 ⊢
      obtain ⟨b, cap, rfl, hSb, hbw, hcap, hO, hcell, hset⟩ := hD3.row.own hD3.num
      rw [dpt_length] at hcell hset hcap
      obtain ⟨c1, c2⟩ := hcell at0 (by omega)
      obtain ⟨s1, s2⟩ := hset at0 y (by omega)
      have hai : (at0 : Int) < 128 := by omega
      have hm2 : y % 256 = y := by omega
      have hD4 : DrB base g a c zs w (.slice (some ⟨b, 0, none⟩) (dpt m 128).length cap) (dbl zs p) (adv zs p 3) (w3.setCell ⟨b, at0, none⟩ (.int .u8 y)) := by
        rw [HDB.out, HADV.out, Int.toNat_natCast]
        exact ⟨byt_set hD3.num at0 hb0, s1, hD3.src.frm s2 (by omega) (fun q e => by omega), hD3.frm.trans (s2.mono fun q _ e => .inr (by omega))⟩
      rw [dpt_length] at hD4 ⊢
      generalize (dpt m 128).getD at0 0 = ov at c1
      clear hD3 hO hcell hset s1 s2
      go_wp2
      refine bodyPost_ret (by simp [results, Try.results38, go_sem]; rfl) rfl ?_
      exact ⟨_, rfl, hD4⟩
end Go.Proofs.Ytbadedhliplkeaa
