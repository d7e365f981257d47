import Derived.Test.YtfbjagjgofdheaaGreatDoorHf
import Derived.Test.YtfbjagjgofdheaaGreatDoorInv
import Derived.Deep.DeepCutAuto
import Derived.MapKept
import Derived.WideMake
import Derived.Deep.RegionHeld3
import Derived.Lib.SliceRun
import Derived.Laws.CopyOwn
import Derived.Deep.RegionLaw
import Derived.Test.YtfbjagjgofdheaaGreatDoorGd
import Derived.Test.YtfbjagjgofdheaaGreatDoorCd3
namespace Go.Proofs.YtfbjagjgofdheaaGreatDoor
open Go.RowKit
set_option linter.unusedVariables false

set_option maxHeartbeats 1000000 in
/-- some number -/
theorem l2At_some (b off c at' width : Nat) (zs : List Int) (w : World) (hv : Bts w (.slice (some ⟨b, off, none⟩) zs.length c) zs) (hw : width ≤ 8) (hn : at' + width ≤ zs.length) (hl : zs.length ≤ 1048576) :
    Calls Tryz.prog 21 #[.slice (some ⟨b, off, none⟩) zs.length c, .int .i64 at', .int .i64 width] w fun e w' => (∃ x, e = .returned (.int .i64 x)) ∧ w = w' := by
  have hsm := hv.small
  obtain ⟨_, _, he, hc⟩ := hv.shape
  simp only [Value.slice.injEq, true_and] at he
  obtain ⟨rfl, rfl⟩ := he
  have hw1 : IntKind.i64.wrap ((width : Int) - 1) = (width : Int) - 1 := IntWalk.i64_in _ ⟨by omega, by omega⟩
  go_enter Tryz.func21, Tryz.ntmps21
  go_wp2_with fail
  go_loopw [7, 8] (fun v i wr => ∃ j : Nat, j ≤ width ∧ i = .int .i64 ((width : Int) - 1 - j) ∧ (∃ x, v = .int .i64 x) ∧ wr = w) (fun _ i _ => (intOf i + 1).toNat)
  case atStart => exact ⟨0, Nat.zero_le _, by simp, ⟨_, rfl⟩, rfl⟩
  case round =>
    obtain ⟨j, hj, rfl, ⟨A, rfl⟩, rfl⟩ := hrel
    by_cases hlt : j < width
    · obtain ⟨b', off', ha, hcell⟩ := hc (by omega)
      simp only [Option.some.injEq, Addr.mk.injEq, and_true] at ha
      obtain ⟨rfl, rfl⟩ := ha
      have hge : (0 : Int) ≤ (width : Int) - 1 - j := by omega
      obtain ⟨x, hx⟩ : ∃ x : Nat, x = at' + (width - 1 - j) := ⟨_, rfl⟩
      have c0 := hcell x (by omega)
      have hi1 : IntKind.i64.wrap ((at' : Int) + ((width : Int) - 1 - j)) = (x : Int) := (IntWalk.i64_in _ ⟨by omega, by omega⟩).trans (by omega)
      have hi2 : (x : Int) < (zs.length : Int) := by omega
      generalize zs.getD x 0 = z at *
      have hm3 : IntKind.i64.wrap ((width : Int) - 1 - j - 1) = (width : Int) - 1 - j - 1 := IntWalk.i64_in _ ⟨by omega, by omega⟩
      clear hsm hc hcell hx
      go_wp2
      go_roundw
      case rel => exact ⟨j + 1, by omega, by congr 1; omega, ⟨_, rfl⟩, trivial⟩
      case measure => simp [intOf]; omega
    · obtain rfl : j = width := by omega
      have hge : ¬ (0 : Int) ≤ (j : Int) - 1 - j := by omega
      clear hc hsm
      go_wp2
      go_ret
      exact ⟨⟨_, rfl⟩, rfl⟩

set_option maxRecDepth 100000 in
set_option maxHeartbeats 1000000 in
/-- some code; nought only of a block of its size -/
theorem l2Sum_some (a : Option Addr) (c : Nat) (zs : List Int) (w : World) (hv : Bts w (.slice a zs.length c) zs) (hl : zs.length ≤ 1048576) (hc : zs.length ≤ c) :
    Calls Tryz.prog 19 #[.slice a zs.length c] w fun e w' => (∃ x, e = .returned (.int .i64 x) ∧ (x = 0 → zs.length = 128)) ∧ Below w.heap.size w w' := by
  by_cases h8 : zs.length = 128
  · obtain ⟨_, _, he, hcc0⟩ := hv.shape
    simp only [Value.slice.injEq, true_and] at he
    obtain ⟨rfl, rfl⟩ := he
    obtain ⟨b, off, rfl, hcell⟩ := hcc0 (by omega)
    clear hcc0
    have HA : Hid (∀ X : World, X.heap = w.heap → Calls Tryz.prog 21 #[.slice (some ⟨b, off, none⟩) 128 c, .int .i64 124, .int .i64 4] X fun e w' => (∃ x, e = .returned (.int .i64 x)) ∧ X = w') := fun X e => by
      have hX : Bts X (.slice (some ⟨b, off, none⟩) zs.length c) zs := hv.kept fun k o _ => by simp [World.cell?, e]
      have h := l2At_some b off c 124 4 zs X hX (by omega) (by omega) (by omega)
      rw [h8] at h
      exact h
    have HC : Hid (∀ (X : World) (cap : Nat), X.heap = w.heap → Calls Tryz.prog 37 #[.slice (some ⟨b, off, none⟩) 124 cap] X fun e w' => e = .returned (.int .u32 (crcOf (zs.take 124))) ∧ X = w') := fun X cap e => by
      have hX : Bts X (.slice (some ⟨b, off, none⟩) zs.length c) zs := hv.kept fun k o _ => by simp [World.cell?, e]
      have hl124 : (zs.take 124).length = 124 := by rw [List.length_take, h8]; rfl
      have hB : Bts X (.slice (some ⟨b, off, none⟩) 124 cap) (zs.take 124) := by
        refine ⟨fun i => ?_, some ⟨b, off, none⟩, cap, by rw [hl124], fun _ => ⟨b, off, rfl, fun i hi => ?_⟩⟩
        · have := hX.small i
          by_cases h : i < 124
          · simp only [List.getD_eq_getElem?_getD, List.getElem?_take, if_pos h] at this ⊢; exact this
          · simp only [List.getD_eq_getElem?_getD, List.getElem?_take, if_neg h]; simp
        · rw [hl124] at hi
          have hcc := hcell i (by omega)
          rw [show X.cell? ⟨b, off + i, none⟩ = w.cell? ⟨b, off + i, none⟩ by simp [World.cell?, e], hcc]
          simp only [List.getD_eq_getElem?_getD, List.getElem?_take, if_pos hi]
      exact specCrc_any _ (zs.take 124) X hB (by rw [hl124]; omega)
    have h124 : (124 : Int) ≤ (c : Int) := by omega
    rw [h8]
    clear hcell hv
    go_enter Tryz.func19, Tryz.ntmps19
    go_wp2_with fail
    go_region_held3 (fun _ => True) (exact trivial) ((first
      | (go_at_call 21; refine (HA.out w.drew rfl).mono ?_; rintro e w1 ⟨⟨x, rfl⟩, rfl⟩)
      | (go_at_call 37; refine (HC.out w.drew _ rfl).mono ?_; rintro e w2 ⟨rfl, rfl⟩)))
    clear HA HC h8
    generalize crcOf (zs.take 124) = cr at *
    by_cases hq : (x != IntKind.i64.wrap cr) = true
    · go_wp2
      go_ret
      exact ⟨⟨_, rfl, by simp⟩, (Below.refl _ _).drew⟩
    · have hq' : (x != IntKind.i64.wrap cr) = false := by simpa using hq
      clear hq
      go_wp2
      go_ret
      exact ⟨⟨_, rfl, by simp⟩, (Below.refl _ _).drew⟩
  · have hn : ((zs.length : Int) != 128) = true := by simp; omega
    clear hv
    go_enter Tryz.func19, Tryz.ntmps19
    go_wp2
    go_ret
    exact ⟨⟨_, rfl, fun h => absurd h (by decide)⟩, Below.refl _ _⟩

theorem tx_inj {xs ys : List Int} (ha : Byt xs) (hb : Byt ys) (h : txB xs = txB ys) : xs = ys := by
  rw [← sb_tx ha, ← sb_tx hb, h]
theorem tl_eq (a b : ByteArray) : (a.toList == b.toList) = decide (a = b) := by
  rw [ByteArray.toList_eq, ByteArray.toList_eq]
  by_cases h : a = b
  · subst h; simp
  · rw [decide_eq_false h]
    refine beq_eq_false_iff_ne.2 fun e => h ?_
    cases a; cases b
    simpa using e

set_option maxHeartbeats 1000000 in
theorem l2Same_any (a : Option Addr) (c : Nat) (xs : List Int) (b : Option Addr) (d : Nat) (ys : List Int) (w : World) (ha : Bts w (.slice a xs.length c) xs) (hb : Bts w (.slice b ys.length d) ys) (h1 : 0 < xs.length) (h2 : 0 < ys.length) :
    Calls Tryz.prog 23 #[.slice a xs.length c, .slice b ys.length d] w fun e w' => e = .returned (.bool (decide (xs = ys))) ∧ w = w' := by
  have e1 := conv_any ha h1
  have e2 := conv_any hb h2
  have hq : ((txB xs).toList == (txB ys).toList) = decide (xs = ys) := by
    rw [tl_eq]
    by_cases h : xs = ys
    · subst h; simp
    · rw [decide_eq_false h, decide_eq_false (fun e => h (tx_inj ha.small hb.small e))]
  clear ha hb
  generalize txB xs = x at *
  generalize txB ys = y at *
  go_enter Tryz.func23, Tryz.ntmps23
  go_wp2
  go_ret
  exact ⟨rfl, rfl⟩
end Go.Proofs.YtfbjagjgofdheaaGreatDoor

namespace Go.Proofs.YtfbjagjgofdheaaGreatDoor
open Go.RowKit
set_option linter.unusedVariables false

/-- nothing but rows of type e may have changed -/
def NoT (e : TypeId) (w w' : World) : Prop := w.heap.size ≤ w'.heap.size ∧ ∀ g, g < w.heap.size → (∀ cs fr, w.heap[g]? ≠ some (.cells cs e fr)) → w'.heap[g]? = w.heap[g]?

theorem NoT.refl (e : TypeId) (w : World) : NoT e w w := ⟨Nat.le_refl _, fun _ _ _ => rfl⟩

theorem NoT.trans {e : TypeId} {a b c : World} (h : NoT e a b) (k : NoT e b c) : NoT e a c :=
  ⟨Nat.le_trans h.1 k.1, fun g hg hn => by
    have e1 := h.2 g hg hn
    exact (k.2 g (Nat.lt_of_lt_of_le hg h.1) (fun cs fr => by rw [e1]; exact hn cs fr)).trans e1⟩

theorem NoT.cells {e : TypeId} {w w' : World} (h : NoT e w w') {g : Nat} {cs : Array Value} {t : TypeId} {fr : Nat × Nat} (e1 : w.heap[g]? = some (.cells cs t fr)) (ht : t ≠ e) : w'.heap[g]? = some (.cells cs t fr) :=
  (h.2 g (Array.getElem?_eq_some_iff.1 e1).1 (fun cs' fr' e' => by rw [e1] at e'; simp at e'; exact ht e'.2.1)).trans e1


theorem wp_appendT {o : Oper} {a : Act} {w : World} {K : Act → World → Prop} {Q : Exit → Act → World → Prop} (s x : Operand) (st e : TypeId) (z : Value) (size bytes : Nat)
    (hu : Tryz.prog.underlying st = some (.slice e)) (hinfo : (Tryz.prog.info? e).map (fun i => (i.zero, i.size, i.bytes)) = some (some z, size, bytes)) (hzs : z.cells.size = size) (hsz : 0 < size)
    (ho : o.op = .call { callee := .builtin .append, args := #[s, x], argTypes := #[st, st] })
    {base : Nat} {v : Value} {n : Nat} {cs : List Value} (hown : w.ownsRow base e size v n cs) (hs : a.eval s = v) (ad : Addr) (m c : Nat) (hx : a.eval x = .slice (some ad) m c) (news : List Value) (hl : news.length = m * size)
    (hnews : ∀ j u, news[j]? = some u → w.cell? (ad.add j) = some u) (h1 : ∀ u ∈ news, u.oneCell' = true) (hlen : n + m ≤ 100000) (hby : bytes ≤ 1000) (hb : base ≤ w.heap.size)
    (h : ∀ v' w', w'.ownsRow base e size v' (n + m) (cs ++ news) → NoT e w w' → Below base w w' → K (a.put o.dst v') w') : o.wp Tryz.prog a w K Q := by
  obtain ⟨i0, hi, hzz⟩ := Option.map_eq_some_iff.1 hinfo
  simp only [Prod.mk.injEq] at hzz
  obtain ⟨hz0, hz1, hz2⟩ := hzz
  have hbb : (n + m) * bytes ≤ 140737488355328 := Nat.le_trans (Nat.mul_le_mul hlen hby) (by omega)
  refine wp_append_own _ s x st ho base e i0 z size bytes hu hi hz0 hz1 hz2 hzs hsz v n cs hs hown ad m c news hx hl hnews h1 (by unfold maxLen; omega) hbb hb ?_
  intro v' w' h2 h3 _
  refine h v' w' h2 ⟨h3.size, fun g hg hn => h3.block g hg fun e1 => ?_⟩ ((Below.refl base w).grown h3 hb fun k hk => ?_)
  · rcases hown.2 with ⟨hv, _⟩ | ⟨g', cap, cur, hv, _, hg', _⟩
    · rw [hv] at e1; cases e1
    · rw [hv] at e1
      simp only [Value.ownBlock, Option.some.injEq] at e1
      subst e1
      exact hn _ _ hg'
  · exact (World.ownsRow.lt hown k hk).1

theorem wpList_appendT {ops : Array Oper} {rest : List Oper} {o : Oper} {a : Act} {w : World} {Q : Exit → Act → World → Prop} (hgd : o.guard = none) (s x : Operand) (st e : TypeId) (z : Value) (size bytes : Nat)
    (hu : Tryz.prog.underlying st = some (.slice e)) (hinfo : (Tryz.prog.info? e).map (fun i => (i.zero, i.size, i.bytes)) = some (some z, size, bytes)) (hzs : z.cells.size = size) (hsz : 0 < size)
    (ho : o.op = .call { callee := .builtin .append, args := #[s, x], argTypes := #[st, st] })
    {base : Nat} {v : Value} {n : Nat} {cs : List Value} (hown : w.ownsRow base e size v n cs) (hs : a.eval s = v) (ad : Addr) (m c : Nat) (hx : a.eval x = .slice (some ad) m c) (news : List Value) (hl : news.length = m * size)
    (hnews : ∀ j u, news[j]? = some u → w.cell? (ad.add j) = some u) (h1 : ∀ u ∈ news, u.oneCell' = true) (hlen : n + m ≤ 100000) (hby : bytes ≤ 1000) (hb : base ≤ w.heap.size)
    (h : ∀ v' w', w'.ownsRow base e size v' (n + m) (cs ++ news) → NoT e w w' → Below base w w' → wpList Tryz.prog ops Q rest (a.put o.dst v') w') : wpList Tryz.prog ops Q (o :: rest) a w :=
  wpList_plain hgd fun _ hK => wp_appendT s x st e z size bytes hu hinfo hzs hsz ho hown hs ad m c hx news hl hnews h1 hlen hby hb fun v' w' h2 h3 h4 => hK _ _ (h v' w' h2 h3 h4)
theorem owns_below {W W' : World} {base : Nat} {t : TypeId} {n k : Nat} {v : Value} {cs : List Value} (h : W.ownsRow base t n v k cs) (hb : Below W.heap.size W W') : W'.ownsRow base t n v k cs := by
  refine ⟨h.1, ?_⟩
  rcases h.2 with hv | ⟨g, cap, cur, hv, e1, e2, e3⟩
  · exact .inl hv
  · exact .inr ⟨g, cap, cur, hv, e1, (hb.block g (Array.getElem?_eq_some_iff.1 e2).1).trans e2, e3⟩
theorem owns_set {W : World} {base : Nat} {t : TypeId} {n k : Nat} {v : Value} {cs : List Value} (h : W.ownsRow base t n v k cs) (p : Addr) (hp : p.block < base) (u : Value) : (W.setCell p u).ownsRow base t n v k cs := by
  refine ⟨h.1, ?_⟩
  rcases h.2 with hv | ⟨g, cap, cur, hv, e1, e2, e3⟩
  · exact .inl hv
  · exact .inr ⟨g, cap, cur, hv, e1, (Below.heap_setCell _ p _ g (by omega)).trans e2, e3⟩
theorem owns_form {W : World} {base : Nat} {t : TypeId} {n k : Nat} {v : Value} {cs : List Value} (h : W.ownsRow base t n v k cs) : ∃ a c, v = .slice a k c ∧ ∀ p, a = some p → base ≤ p.block := by
  rcases h.2 with ⟨hv, h0⟩ | ⟨g, cap, cur, hv, e1, e2, e3⟩
  · exact ⟨none, 0, by rw [hv, h0], fun p hp => by cases hp⟩
  · exact ⟨_, _, hv, fun p hp => by cases hp; exact e1⟩
theorem owns_cell {W : World} {base : Nat} {t : TypeId} {n k : Nat} {a : Option Addr} {c : Nat} {cs : List Value} (h : W.ownsRow base t n (.slice a k c) k cs) (hk : 0 < k) : ∃ b, a = some ⟨b, 0, none⟩ ∧ ∀ j, j < k * n → W.cell? ⟨b, j, none⟩ = cs[j]? := by
  rcases h.2 with ⟨_, h0⟩ | ⟨g, cap, cur, hv, e1, hg, _, _, hsz, htk⟩
  · omega
  · simp only [Value.slice.injEq, true_and] at hv
    obtain ⟨rfl, rfl⟩ := hv
    refine ⟨g, rfl, fun j hj => ?_⟩
    rw [cell_of_row W g j _ _ _ hg, ← htk, List.getElem?_take, if_pos hj]
    simp
/-- a run's, a root's, an entry's cells -/
def flat3 (r : R3) : List Value := [.int .i64 r.1, .int .i64 r.2.1, .int .i64 r.2.2]
def flat2 (r : R2) : List Value := [.int .i64 r.1, .int .i64 r.2]
def flatE (r : E3) : List Value := [.string r.1, .string r.2.1, .int .i64 r.2.2]
theorem flat_at {α : Type} (f : α → List Value) (m : Nat) (hf : ∀ r, (f r).length = m) (d : α) : ∀ (rs : List α) (i j : Nat), i < rs.length → j < m → (rs.flatMap f)[i * m + j]? = (f (rs.getD i d))[j]?
  | [], i, j, h, _ => by simp at h
  | r :: l, 0, j, _, hj => by
    rw [List.flatMap_cons, Nat.zero_mul, Nat.zero_add, List.getElem?_append_left (by rw [hf]; exact hj)]; rfl
  | r :: l, i + 1, j, h, hj => by
    have ih := flat_at f m hf d l i j (by simpa using h) hj
    rw [List.flatMap_cons, List.getElem?_append_right (by rw [hf, Nat.succ_mul]; omega), hf, show (i + 1) * m + j - m = i * m + j by rw [Nat.succ_mul]; omega, ih]
    rfl
theorem flat_len {α : Type} (f : α → List Value) (m : Nat) (hf : ∀ r, (f r).length = m) : ∀ rs : List α, (rs.flatMap f).length = rs.length * m
  | [] => by simp
  | r :: l => by rw [List.flatMap_cons, List.length_append, hf, flat_len f m hf l, List.length_cons, Nat.succ_mul]; omega
theorem flat_snoc {α : Type} (f : α → List Value) (rs : List α) (r : α) : (rs ++ [r]).flatMap f = rs.flatMap f ++ f r := by simp
theorem owns_R {W : World} {base : Nat} {a : Option Addr} {c : Nat} {rs : List R3} (h : W.ownsRow base 78 3 (.slice a rs.length c) rs.length (rs.flatMap flat3)) : RRead W (.slice a rs.length c) rs := by
  refine ⟨a, c, rfl, fun hp => ?_⟩
  obtain ⟨b, rfl, hc⟩ := owns_cell h hp
  refine ⟨b, 0, rfl, fun i hi => ?_⟩
  have q := fun j hj => (hc (i * 3 + j) (by omega)).trans (flat_at flat3 3 (fun _ => rfl) (0, 0, 0) rs i j hi hj)
  simp only [Nat.zero_add]
  exact ⟨q 0 (by omega), q 1 (by omega), q 2 (by omega)⟩
theorem owns_T {W : World} {base : Nat} {a : Option Addr} {c : Nat} {rs : List R2} (h : W.ownsRow base 46 2 (.slice a rs.length c) rs.length (rs.flatMap flat2)) : TRead W (.slice a rs.length c) rs := by
  refine ⟨a, c, rfl, fun hp => ?_⟩
  obtain ⟨b, rfl, hc⟩ := owns_cell h hp
  refine ⟨b, 0, rfl, fun i hi => ?_⟩
  have q := fun j hj => (hc (i * 2 + j) (by omega)).trans (flat_at flat2 2 (fun _ => rfl) (0, 0) rs i j hi hj)
  simp only [Nat.zero_add]
  exact ⟨q 0 (by omega), q 1 (by omega)⟩
theorem owns_N {W : World} {base : Nat} {a : Option Addr} {c : Nat} {rs : List E3} (h : W.ownsRow base 52 3 (.slice a rs.length c) rs.length (rs.flatMap flatE)) : NRead W (.slice a rs.length c) rs := by
  refine ⟨a, c, rfl, fun hp => ?_⟩
  obtain ⟨b, rfl, hc⟩ := owns_cell h hp
  refine ⟨b, 0, rfl, fun i hi => ?_⟩
  have q := fun j hj => (hc (i * 3 + j) (by omega)).trans (flat_at flatE 3 (fun _ => rfl) e0 rs i j hi hj)
  simp only [Nat.zero_add]
  exact ⟨q 0 (by omega), q 1 (by omega), q 2 (by omega)⟩
/-- a row of bytes, read -/
theorem Row8.bts {base : Nat} {w : World} {a : Option Addr} {n c : Nat} {zs : List Int} (h : Row8 base w (.slice a n c) zs) (hz : Byt zs) : Bts w (.slice a n c) zs := (h.own hz).bts
end Go.Proofs.YtfbjagjgofdheaaGreatDoor

namespace Go.Proofs.YtfbjagjgofdheaaGreatDoor
open Go.RowKit
set_option linter.unusedVariables false


/-- w' is w but for the blocks in S -/
structure Frm (S : Nat → Prop) (w w' : World) : Prop where
  os : w'.os = w.os
  tape : w'.tape = w.tape
  output : w'.output = w.output
  size : w.heap.size ≤ w'.heap.size
  block : ∀ k, k < w.heap.size → ¬ S k → w'.heap[k]? = w.heap[k]?

theorem Frm.refl (S : Nat → Prop) (w : World) : Frm S w w := ⟨rfl, rfl, rfl, Nat.le_refl _, fun _ _ _ => rfl⟩

theorem Frm.trans {S : Nat → Prop} {a b c : World} (h : Frm S a b) (k : Frm S b c) : Frm S a c :=
  ⟨k.os.trans h.os, k.tape.trans h.tape, k.output.trans h.output, Nat.le_trans h.size k.size, fun i hi hn => (k.block i (Nat.lt_of_lt_of_le hi h.size) hn).trans (h.block i hi hn)⟩

theorem Frm.of_below {S : Nat → Prop} {w w' : World} (h : Below w.heap.size w w') : Frm S w w' := ⟨h.os, h.tape, h.output, h.size, fun k hk _ => h.block k hk⟩

theorem Frm.below {S : Nat → Prop} {w w' : World} {B : Nat} (h : Frm S w w') (hB : B ≤ w.heap.size) (hS : ∀ k, S k → B ≤ k) : Below B w w' :=
  ⟨h.os, h.tape, h.output, h.size, fun k hk => h.block k (by omega) (fun hs => by have := hS k hs; omega)⟩

theorem Frm.setCell {S : Nat → Prop} {a w : World} (h : Frm S a w) {p : Addr} (hp : S p.block) (u : Value) : Frm S a (w.setCell p u) :=
  h.trans ⟨rfl, rfl, rfl, by simp, fun k _ hn => Below.heap_setCell w p u k (fun e => hn (e ▸ hp))⟩

theorem Frm.wider {S S' : Nat → Prop} {w w' : World} (h : Frm S w w') (hs : ∀ k, S k → S' k) : Frm S' w w' := ⟨h.os, h.tape, h.output, h.size, fun k hk hn => h.block k hk (fun e => hn (hs k e))⟩

/-- a row of the call's own, written out: the value leads to the head of block g -/
structure RowAt (w : World) (g : Nat) (v : Value) (zs : List Int) : Prop where
  shape : ∃ cap cur, v = .slice (some ⟨g, 0, none⟩) zs.length cap ∧ w.heap[g]? = some (.cells cur 5 (0, 0)) ∧ zs.length ≤ cap ∧ cap ≤ maxLen ∧ cur.size = cap ∧ cur.toList.take zs.length = zs.map (Value.int .u8)
  small : ∀ i, 0 ≤ zs.getD i 0 ∧ zs.getD i 0 < 256

theorem RowAt.lt {w : World} {g : Nat} {v : Value} {zs : List Int} (h : RowAt w g v zs) : g < w.heap.size := by
  obtain ⟨_, _, _, hg, _⟩ := h.shape
  by_cases hh : g < w.heap.size
  · exact hh
  · simp [show w.heap.size ≤ g by omega] at hg

theorem RowAt.block {w w' : World} {g : Nat} {v : Value} {zs : List Int} (h : RowAt w g v zs) (hb : w'.heap[g]? = w.heap[g]?) : RowAt w' g v zs := by
  obtain ⟨cap, cur, h1, h2, h3⟩ := h.shape
  exact ⟨⟨cap, cur, h1, hb.trans h2, h3⟩, h.small⟩

theorem RowAt.below {w w' : World} {g : Nat} {v : Value} {zs : List Int} (h : RowAt w g v zs) (k : Below w.heap.size w w') : RowAt w' g v zs := h.block (k.block g h.lt)


theorem set_ne (w : World) (g i j : Nat) (v : Value) (h : i ≠ j) : (w.setCell ⟨g, i, none⟩ v).cell? ⟨g, j, none⟩ = w.cell? ⟨g, j, none⟩ := World.cell?_setCell_other _ _ _ _ (by intro e; simp only [Addr.mk.injEq] at e; omega)

theorem set_far (w : World) (g b i j : Nat) (v : Value) (h : b ≠ g) : (w.setCell ⟨g, i, none⟩ v).cell? ⟨b, j, none⟩ = w.cell? ⟨b, j, none⟩ := World.cell?_setCell_other _ _ _ _ (by intro e; simp only [Addr.mk.injEq] at e; omega)

theorem Frm.mono {S T : Nat → Prop} {w w' : World} (h : Frm S w w') (k : ∀ b, b < w.heap.size → S b → T b) : Frm T w w' := ⟨h.os, h.tape, h.output, h.size, fun i hi hn => h.block i hi fun e => hn (k i hi e)⟩

theorem Frm.drew {S : Nat → Prop} {w w' : World} (h : Frm S w w') : Frm S w w'.drew := ⟨h.os, h.tape, h.output, h.size, h.block⟩

/-- the source's number behind one draw -/
def nxN (s : Int) : Int := IntKind.u64.wrap (IntKind.u64.wrap (s * 6364136223846793005) + 1442695040888963407)

/-- the source behind one draw -/
def nxS (zs : List Int) (p : Nat × Int) : Nat × Int := (if p.1 < zs.length then p.1 + 1 else p.1, nxN p.2)

/-- what is drawn below n -/
def nxV (zs : List Int) (p : Nat × Int) (n : Int) : Int := if p.1 < zs.length then wrap64 ((bits .xor .u64 (nxN p.2 / 8589934592) (IntKind.u64.wrap (zs.getD p.1 0))).tmod n) else wrap64 ((nxN p.2 / 8589934592).tmod n)

theorem u64_nonneg (x : Int) : 0 ≤ IntKind.u64.wrap x ∧ IntKind.u64.wrap x < 18446744073709551616 := by simp only [IntKind.wrap, IntKind.signed, IntKind.bits]; simp; omega

theorem tmod_in {x n : Int} (hx : 0 ≤ x) (hn : 0 < n) (hm : n ≤ 9223372036854775807) : 0 ≤ wrap64 (x.tmod n) ∧ wrap64 (x.tmod n) < n := by
  rw [Int.tmod_eq_emod_of_nonneg hx]
  have h1 := Int.emod_nonneg x (show n ≠ 0 by omega)
  have h2 := Int.emod_lt_of_pos x hn
  have hw : wrap64 (x % n) = x % n := by unfold wrap64; omega
  rw [hw]
  exact ⟨h1, h2⟩

theorem xor_nonneg {a b : Int} (h1 : 0 ≤ a) (h2 : a < 18446744073709551616) (h3 : 0 ≤ b) (h4 : b < 18446744073709551616) : 0 ≤ bits .xor .u64 a b := by
  rw [u64_xor a b h1 h2 h3 h4]; omega

theorem nxV_in (zs : List Int) (p : Nat × Int) {n : Int} (hn : 0 < n) (hm : n ≤ 9223372036854775807) : 0 ≤ nxV zs p n ∧ nxV zs p n < n := by
  have h := u64_nonneg (IntKind.u64.wrap (p.2 * 6364136223846793005) + 1442695040888963407)
  unfold nxV nxN
  split
  · exact tmod_in (xor_nonneg (by omega) (by omega) (u64_nonneg _).1 (u64_nonneg _).2) hn hm
  · exact tmod_in (by omega) hn hm

/-- block g holds a source over the bytes zs, at p -/
structure SrcX (base g : Nat) (a : Option Addr) (c : Nat) (zs : List Int) (p : Nat × Int) (w : World) : Prop where
  code : Bts w (.slice a zs.length c) zs
  old : 0 < zs.length → ∀ b off, a = some ⟨b, off, none⟩ → b < base
  lo : base ≤ g
  len : zs.length ≤ 1048576
  pos : p.1 ≤ zs.length
  cells : w.cell? ⟨g, 0, none⟩ = some (.slice a zs.length c) ∧ w.cell? ⟨g, 1, none⟩ = some (.int .i64 p.1) ∧ w.cell? ⟨g, 2, none⟩ = some (.int .u64 p.2) ∧ w.frozen? ⟨g, 0, none⟩ = false ∧ w.frozen? ⟨g, 1, none⟩ = false ∧ w.frozen? ⟨g, 2, none⟩ = false

theorem SrcX.heap {base g : Nat} {a : Option Addr} {c : Nat} {zs : List Int} {p : Nat × Int} {w w' : World} (h : SrcX base g a c zs p w) (e : w'.heap = w.heap) : SrcX base g a c zs p w' := by
  have e1 : ∀ p : Addr, w'.cell? p = w.cell? p := fun p => World.cell?_of_block (by rw [e])
  have e2 : ∀ p : Addr, w'.frozen? p = w.frozen? p := fun p => World.frozen?_of_block (by rw [e])
  exact ⟨h.code.kept fun _ _ _ => e1 _, h.old, h.lo, h.len, h.pos, by simpa only [e1, e2] using h.cells⟩

theorem SrcX.lt {base g : Nat} {a : Option Addr} {c : Nat} {zs : List Int} {p : Nat × Int} {w : World} (h : SrcX base g a c zs p w) : g < w.heap.size := World.block_lt_of_cell? _ _ h.cells.1

theorem SrcX.frm {S : Nat → Prop} {base g : Nat} {a : Option Addr} {c : Nat} {zs : List Int} {p : Nat × Int} {w w' : World} (h : SrcX base g a c zs p w) (k : Frm S w w') (hg : ¬ S g) (hb : ∀ b, S b → base ≤ b) : SrcX base g a c zs p w' := by
  have hlt := h.lt
  have e1 : ∀ o, w'.cell? ⟨g, o, none⟩ = w.cell? ⟨g, o, none⟩ := fun o => World.cell?_of_block (k.block g hlt hg)
  have e2 : ∀ o, w'.frozen? ⟨g, o, none⟩ = w.frozen? ⟨g, o, none⟩ := fun o => World.frozen?_of_block (k.block g hlt hg)
  refine ⟨⟨h.code.small, ?_⟩, h.old, h.lo, h.len, h.pos, by simpa only [e1, e2] using h.cells⟩
  obtain ⟨_, _, he, hc⟩ := h.code.shape
  refine ⟨_, _, he, fun hp => ?_⟩
  simp only [Value.slice.injEq, true_and] at he
  obtain ⟨rfl, rfl⟩ := he
  obtain ⟨b, off, rfl, hcell⟩ := hc hp
  refine ⟨b, off, rfl, fun i hi => (World.cell?_of_block (w := w) (k.block b (World.block_lt_of_cell? _ _ (hcell i hi)) fun e => ?_)).trans (hcell i hi)⟩
  have h1 := hb b e
  have h2 := h.old hp b off rfl
  omega

theorem SrcX.below {base g : Nat} {a : Option Addr} {c : Nat} {zs : List Int} {p : Nat × Int} {w w' : World} (h : SrcX base g a c zs p w) (k : Below w.heap.size w w') : SrcX base g a c zs p w' := h.frm (Frm.of_below (S := fun _ => False) k) (fun e => e) (fun _ e => e.elim)

theorem SrcX.stored {base g : Nat} {a : Option Addr} {c : Nat} {zs : List Int} {p : Nat × Int} {w : World} (h : SrcX base g a c zs p w) (s : Int) : SrcX base g a c zs (p.1, s) (w.setCell ⟨g, 2, none⟩ (.int .u64 s)) ∧ Frm (· = g) w (w.setCell ⟨g, 2, none⟩ (.int .u64 s)) := by
  obtain ⟨c0, c1, c2, f0, f1, f2⟩ := h.cells
  refine ⟨⟨⟨h.code.small, ?_⟩, h.old, h.lo, h.len, h.pos, (set_ne _ _ _ _ _ (by decide)).trans c0, (set_ne _ _ _ _ _ (by decide)).trans c1, World.cell?_setCell_same _ _ _ c2, (World.frozen?_setCell _ _ _ _).trans f0, (World.frozen?_setCell _ _ _ _).trans f1, (World.frozen?_setCell _ _ _ _).trans f2⟩, rfl, rfl, rfl, by simp [World.setCell], fun k _ hn => Below.heap_setCell _ _ _ _ hn⟩
  obtain ⟨_, _, he, hc⟩ := h.code.shape
  refine ⟨_, _, he, fun hp => ?_⟩
  simp only [Value.slice.injEq, true_and] at he
  obtain ⟨rfl, rfl⟩ := he
  obtain ⟨b, off, rfl, hcell⟩ := hc hp
  exact ⟨b, off, rfl, fun i hi => (set_far _ _ _ _ _ _ (by have h1 := h.old hp b off rfl; have h2 := h.lo; omega)).trans (hcell i hi)⟩

theorem SrcX.moved {base g : Nat} {a : Option Addr} {c : Nat} {zs : List Int} {p : Nat × Int} {w : World} (h : SrcX base g a c zs p w) (q : Nat) (hq : q ≤ zs.length) : SrcX base g a c zs (q, p.2) (w.setCell ⟨g, 1, none⟩ (.int .i64 q)) ∧ Frm (· = g) w (w.setCell ⟨g, 1, none⟩ (.int .i64 q)) := by
  obtain ⟨c0, c1, c2, f0, f1, f2⟩ := h.cells
  refine ⟨⟨⟨h.code.small, ?_⟩, h.old, h.lo, h.len, hq, (set_ne _ _ _ _ _ (by decide)).trans c0, World.cell?_setCell_same _ _ _ c1, (set_ne _ _ _ _ _ (by decide)).trans c2, (World.frozen?_setCell _ _ _ _).trans f0, (World.frozen?_setCell _ _ _ _).trans f1, (World.frozen?_setCell _ _ _ _).trans f2⟩, rfl, rfl, rfl, by simp [World.setCell], fun k _ hn => Below.heap_setCell _ _ _ _ hn⟩
  obtain ⟨_, _, he, hc⟩ := h.code.shape
  refine ⟨_, _, he, fun hp => ?_⟩
  simp only [Value.slice.injEq, true_and] at he
  obtain ⟨rfl, rfl⟩ := he
  obtain ⟨b, off, rfl, hcell⟩ := hc hp
  exact ⟨b, off, rfl, fun i hi => (set_far _ _ _ _ _ _ (by have h1 := h.old hp b off rfl; have h2 := h.lo; omega)).trans (hcell i hi)⟩

set_option maxHeartbeats 1000000 in
theorem l1Next_x (base g : Nat) (a : Option Addr) (c : Nat) (zs : List Int) (p : Nat × Int) (n : Int) (hn : 0 < n) (hm : n ≤ 9223372036854775807) (w : World) (hs : SrcX base g a c zs p w) :
    Calls Tryz.prog 26 #[.pointer (some ⟨g, 0, none⟩), .int .i64 n] w fun e w' => e = .returned (.int .i64 (nxV zs p n)) ∧ SrcX base g a c zs (nxS zs p) w' ∧ Frm (· = g) w w' := by
  have HS : Hid (SrcX base g a c zs p w) := hs
  obtain ⟨pos, s⟩ := p
  have hp := hs.pos
  obtain ⟨c0, c1, c2, f0, f1, f2⟩ := hs.cells
  simp only at hp c1 c2
  have hlen := hs.len
  have hn' : ¬ n ≤ 0 := by omega
  have hn0 : ¬ n = 0 := by omega
  have hnw : IntKind.u64.wrap n = n := by simp only [IntKind.wrap, IntKind.signed, IntKind.bits]; simp; omega
  have K0 := fun v => (set_ne w g 2 0 v (by decide)).trans c0
  have K1 := fun v => (set_ne w g 2 1 v (by decide)).trans c1
  by_cases hlt : pos < zs.length
  · have hi : (pos : Int) < (zs.length : Int) := by omega
    obtain ⟨_, _, he, hc⟩ := hs.code.shape
    simp only [Value.slice.injEq, true_and] at he
    obtain ⟨rfl, rfl⟩ := he
    obtain ⟨b, off, rfl, hcell⟩ := hc (by omega)
    have hbg : b ≠ g := by have := hs.old (by omega) b off rfl; have := hs.lo; omega
    have g1 := hcell pos hlt
    have K2 := fun v => (set_far w g b 2 (off + pos) v hbg).trans g1
    have HV : Hid (nxV zs (pos, s) n = wrap64 ((bits .xor .u64 (nxN s / 8589934592) (IntKind.u64.wrap (zs.getD pos 0))).tmod n)) := if_pos hlt
    have HX : Hid (nxS zs (pos, s) = (pos + 1, nxN s)) := by unfold nxS; rw [if_pos hlt]; rfl
    generalize zs.getD pos 0 = z at g1 K2 HV
    clear hc hcell hs
    go_enter Tryz.func26, Tryz.ntmps26
    go_wp2
    go_region_held3 (fun w' => w'.cell? ⟨g, 1, none⟩ = some (.int .i64 pos) ∧ w'.cell? ⟨g, 0, none⟩ = some (.slice (some ⟨b, off, none⟩) zs.length c)) (first | exact ⟨K1 _, K0 _⟩ | go_keep | assumption) (fail)
    go_wp2
    go_region_held3 (fun w' => w'.cell? ⟨g, 0, none⟩ = some (.slice (some ⟨b, off, none⟩) zs.length c) ∧ w'.cell? ⟨g, 1, none⟩ = some (.int .i64 pos) ∧ w'.cell? ⟨b, off + pos, none⟩ = some (.int .u8 z)) (first | exact ⟨K0 _, K1 _, K2 _⟩ | go_keep | assumption) (fail)
    go_wp2
    refine bodyPost_ret (by simp [results, Tryz.results26, go_sem]; rfl) rfl ?_
    obtain ⟨r1, r2⟩ := HS.out.stored (nxN s)
    obtain ⟨r3, r4⟩ := r1.moved (pos + 1) (by omega)
    rw [HV.out, HX.out]
    exact ⟨rfl, r3.heap rfl, (r2.trans r4).trans ⟨rfl, rfl, rfl, Nat.le_refl _, fun _ _ _ => rfl⟩⟩
  · have hi : ¬ (pos : Int) < (zs.length : Int) := by omega
    have HV : Hid (nxV zs (pos, s) n = wrap64 ((nxN s / 8589934592).tmod n)) := if_neg hlt
    have HX : Hid (nxS zs (pos, s) = (pos, nxN s)) := by unfold nxS; rw [if_neg hlt]; rfl
    clear hs
    go_enter Tryz.func26, Tryz.ntmps26
    go_wp2
    go_region_held3 (fun w' => w'.cell? ⟨g, 1, none⟩ = some (.int .i64 pos) ∧ w'.cell? ⟨g, 0, none⟩ = some (.slice a zs.length c)) (first | exact ⟨K1 _, K0 _⟩ | go_keep | assumption) (fail)
    go_wp2
    refine bodyPost_ret (by simp [results, Tryz.results26, go_sem]; rfl) rfl ?_
    obtain ⟨r1, r2⟩ := HS.out.stored (nxN s)
    rw [HV.out, HX.out]
    exact ⟨rfl, r1.heap rfl, r2.trans ⟨rfl, rfl, rfl, Nat.le_refl _, fun _ _ _ => rfl⟩⟩

/-- l1DrawBlocks -/
def dbV (zs : List Int) (p : Nat × Int) : Int := if nxV zs p 20 = 0 then 512 else if nxV zs p 20 = 1 then 8 else if nxV zs p 20 < 5 then 60 + nxV zs (nxS zs p) 200 else 10 + nxV zs (nxS zs p) 40

def dbS (zs : List Int) (p : Nat × Int) : Nat × Int := if nxV zs p 20 = 0 ∨ nxV zs p 20 = 1 then nxS zs p else nxS zs (nxS zs p)

theorem dbV_in (zs : List Int) (p : Nat × Int) : 8 ≤ dbV zs p ∧ dbV zs p ≤ 512 := by
  have h1 := nxV_in zs (nxS zs p) (n := 200) (by decide) (by decide)
  have h2 := nxV_in zs (nxS zs p) (n := 40) (by decide) (by decide)
  unfold dbV
  repeat' split
  all_goals omega

set_option maxHeartbeats 1000000 in
theorem l1DrawBlocks_x (base g : Nat) (a : Option Addr) (c : Nat) (zs : List Int) (p : Nat × Int) (w : World) (hs : SrcX base g a c zs p w) :
    Calls Tryz.prog 53 #[.pointer (some ⟨g, 0, none⟩)] w fun e w' => e = .returned (.int .i64 (dbV zs p)) ∧ SrcX base g a c zs (dbS zs p) w' ∧ Frm (· = g) w w' := by
  have HV : Hid (dbV zs p = if nxV zs p 20 = 0 then 512 else if nxV zs p 20 = 1 then 8 else if nxV zs p 20 < 5 then 60 + nxV zs (nxS zs p) 200 else 10 + nxV zs (nxS zs p) 40) := rfl
  have HX : Hid (dbS zs p = if nxV zs p 20 = 0 ∨ nxV zs p 20 = 1 then nxS zs p else nxS zs (nxS zs p)) := rfl
  go_enter Tryz.func53, Tryz.ntmps53
  go_wp2_with fail
  refine (l1Next_x base g a c zs p 20 (by decide) (by decide) _ hs).mono ?_
  rintro e w1 ⟨rfl, hs1, hf1⟩
  generalize nxV zs p 20 = k at HV HX ⊢
  by_cases h0 : k = 0
  · subst h0
    go_wp2
    exact bodyPost_ret (v := .int .i64 512) (by simp [results, Tryz.results53, go_sem]) rfl ⟨by rw [HV.out]; rfl, by rw [HX.out]; exact hs1, hf1⟩
  · have h0' : (k == 0) = false := by simpa using h0
    by_cases h1 : k = 1
    · subst h1
      go_wp2
      exact bodyPost_ret (v := .int .i64 8) (by simp [results, Tryz.results53, go_sem]) rfl ⟨by rw [HV.out]; rfl, by rw [HX.out]; exact hs1, hf1⟩
    · have h1' : (k == 1) = false := by simpa using h1
      have HX2 : Hid (dbS zs p = nxS zs (nxS zs p)) := by rw [Hid, HX.out, if_neg (by omega)]
      by_cases h5 : k < 5
      · have HV2 : Hid (dbV zs p = 60 + nxV zs (nxS zs p) 200) := by rw [Hid, HV.out, if_neg h0, if_neg h1, if_pos h5]
        have hb := nxV_in zs (nxS zs p) (n := 200) (by decide) (by decide)
        go_wp2_with fail
        refine (l1Next_x base g a c zs _ 200 (by decide) (by decide) _ hs1).mono ?_
        rintro e w2 ⟨rfl, hs2, hf2⟩
        have hf3 := hf1.trans hf2
        generalize nxV zs (nxS zs p) 200 = y at HV2 hb ⊢
        clear HV HX
        go_wp2
        exact bodyPost_ret (v := .int .i64 (60 + y)) (by simp [results, Tryz.results53, go_sem]) rfl ⟨by rw [HV2.out], by rw [HX2.out]; exact hs2, hf3⟩
      · have HV2 : Hid (dbV zs p = 10 + nxV zs (nxS zs p) 40) := by rw [Hid, HV.out, if_neg h0, if_neg h1, if_neg h5]
        have hb := nxV_in zs (nxS zs p) (n := 40) (by decide) (by decide)
        go_wp2_with fail
        refine (l1Next_x base g a c zs _ 40 (by decide) (by decide) _ hs1).mono ?_
        rintro e w2 ⟨rfl, hs2, hf2⟩
        have hf3 := hf1.trans hf2
        generalize nxV zs (nxS zs p) 40 = y at HV2 hb ⊢
        clear HV HX
        go_wp2
        exact bodyPost_ret (v := .int .i64 (10 + y)) (by simp [results, Tryz.results53, go_sem]) rfl ⟨by rw [HV2.out], by rw [HX2.out]; exact hs2, hf3⟩


/-- the source's first number, behind k bytes -/
def bgN (zs : List Int) : Nat → Int
  | 0 => 1469598103934665603
  | k + 1 => IntKind.u64.wrap (bits .xor .u64 (bgN zs k) (IntKind.u64.wrap (zs.getD k 0)) * 1099511628211)

/-- the source under way -/
structure Bgn (w : World) (g : Nat) (u : Value) (s : Int) (wr : World) : Prop where
  res : wr.heap[w.heap.size]? = some (.cells #[.slice none 0 0, .int .i64 0, .int .u64 0] 56)
  c0 : wr.cell? ⟨g, 0, none⟩ = some u
  c1 : wr.cell? ⟨g, 1, none⟩ = some (.int .i64 0)
  c2 : wr.cell? ⟨g, 2, none⟩ = some (.int .u64 s)
  free : ∀ o, wr.frozen? ⟨g, o, none⟩ = false
  bel : Below w.heap.size w wr

theorem Bgn.stored {w wr : World} {g : Nat} {u : Value} {s : Int} (h : Bgn w g u s wr) (hg : w.heap.size < g) (s' : Int) : Bgn w g u s' (wr.setCell ⟨g, 2, none⟩ (.int .u64 s')) :=
  ⟨(Below.heap_setCell _ _ _ _ (by show w.heap.size ≠ g; omega)).trans h.res, (set_ne _ _ _ _ _ (by decide)).trans h.c0, (set_ne _ _ _ _ _ (by decide)).trans h.c1, World.cell?_setCell_same _ _ _ h.c2, fun o => (World.frozen?_setCell _ _ _ _).trans (h.free o), h.bel.setCell (by show w.heap.size ≤ g; omega) _⟩

theorem Bgn.heap {w wr w' : World} {g : Nat} {u : Value} {s : Int} (h : Bgn w g u s wr) (e : w'.heap = wr.heap) (e1 : w'.os = wr.os) (e2 : w'.tape = wr.tape) (e3 : w'.output = wr.output) : Bgn w g u s w' := by
  have k1 : ∀ p : Addr, w'.cell? p = wr.cell? p := fun p => World.cell?_of_block (by rw [e])
  have k2 : ∀ p : Addr, w'.frozen? p = wr.frozen? p := fun p => World.frozen?_of_block (by rw [e])
  exact ⟨by rw [e]; exact h.res, (k1 _).trans h.c0, (k1 _).trans h.c1, (k1 _).trans h.c2, fun o => (k2 _).trans (h.free o), h.bel.trans ⟨e1, e2, e3, by rw [e]; exact Nat.le_refl _, fun k _ => by rw [e]⟩⟩

set_option maxHeartbeats 1000000 in
theorem l1Begin_x (a : Option Addr) (c : Nat) (zs : List Int) (w : World) (hv : Bts w (.slice a zs.length c) zs) (hl : zs.length ≤ 1048576) :
    Calls Tryz.prog 24 #[.slice a zs.length c] w fun e w' => e = .returned (.agg #[.slice a zs.length c, .int .i64 0, .int .u64 (bgN zs zs.length)]) ∧ Below w.heap.size w w' := by
  have HB : Hid (∀ t, Bgn w (w.heap.size + 1) (.slice a zs.length c) 1469598103934665603 ((w.alloc (.cells #[.slice none 0 0, .int .i64 0, .int .u64 0] 56)).alloc (.cells #[.slice a zs.length c, .int .i64 0, .int .u64 1469598103934665603] t))) := fun t => by
    refine ⟨?_, ?_, ?_, ?_, fun i => ?_, ((Below.refl _ _).alloc (Nat.le_refl _) _).alloc (by simp) _⟩
    · rw [Below.heap_alloc _ _ _ (by simp)]; exact heap_alloc_new w _
    · rw [World.cell?_alloc_at _ _ _ _ (by simp)]; rfl
    · rw [World.cell?_alloc_at _ _ _ _ (by simp)]; rfl
    · rw [World.cell?_alloc_at _ _ _ _ (by simp)]; rfl
    · rw [World.frozen?_alloc_at _ _ _ _ (by simp)]
  go_enter Tryz.func24, Tryz.ntmps24
  go_wp2
  go_loopw [4] (fun i wr => ∃ k : Nat, k ≤ zs.length ∧ i = .int .i64 k ∧ Bgn w (w.heap.size + 1) (.slice a zs.length c) (bgN zs k) wr) (fun i _ => zs.length - (intOf i).toNat)
  case atStart => exact ⟨0, Nat.zero_le _, rfl, HB.out _⟩
  case round =>
    obtain ⟨k, hk, rfl, hB⟩ := hrel
    clear HB
    by_cases hlt : k < zs.length
    · have hi : (k : Int) < (zs.length : Int) := by omega
      obtain ⟨_, _, he, hc⟩ := hv.shape
      simp only [Value.slice.injEq, true_and] at he
      obtain ⟨rfl, rfl⟩ := he
      obtain ⟨b, off, rfl, hcell⟩ := hc (by omega)
      have hbw : b < w.heap.size := World.block_lt_of_cell? _ _ (hcell 0 (by omega))
      have g1 : wr.cell? ⟨b, off + k, none⟩ = some (.int .u8 (zs.getD k 0)) := (hB.bel.cell (p := ⟨b, off + k, none⟩) hbw).trans (hcell k hlt)
      have c2 := hB.c2
      have f2 := hB.free 2
      have HBB : Hid (Bgn w (w.heap.size + 1) (.slice (some ⟨b, off, none⟩) zs.length c) (bgN zs k) wr) := hB
      have HN : Hid (bgN zs (k + 1) = IntKind.u64.wrap (bits .xor .u64 (bgN zs k) (IntKind.u64.wrap (zs.getD k 0)) * 1099511628211)) := rfl
      generalize zs.getD k 0 = z at g1 HN
      generalize bgN zs k = s at c2 HBB HN
      clear hB hcell hc
      go_wp2
      go_region_law (fail)
      all_goals go_wp2
      all_goals go_roundw
      all_goals first | exact ⟨k + 1, by omega, by go_num, by rw [HN.out]; exact (HBB.out.stored (by omega) _).heap rfl rfl rfl rfl⟩ | (simp [intOf]; omega)
    · have hi : ¬ (k : Int) < (zs.length : Int) := by omega
      obtain rfl : k = zs.length := by omega
      have c2 := hB.c2
      have c0 := hB.c0
      have c1 := hB.c1
      have hbel := hB.bel
      have q0 : wr.cell? ⟨w.heap.size, 0, none⟩ = some (.slice none 0 0) := by simp [World.cell?, hB.res]
      have q1 : wr.cell? ⟨w.heap.size, 1, none⟩ = some (.int .i64 0) := by simp [World.cell?, hB.res]
      have q2 : wr.cell? ⟨w.heap.size, 2, none⟩ = some (.int .u64 0) := by simp [World.cell?, hB.res]
      have qf : ∀ j, wr.frozen? ⟨w.heap.size, j, none⟩ = false := fun j => frozen_of_row wr w.heap.size j _ _ hB.res
      have hbE := fun x y z => ((hbel.setCell (p := ⟨w.heap.size, 0, none⟩) (Nat.le_refl _) x).setCell (p := ⟨w.heap.size, 1, none⟩) (Nat.le_refl _) y).setCell (p := ⟨w.heap.size, 2, none⟩) (Nat.le_refl _) z
      have e0 := fun x => World.cell?_setCell_same wr ⟨w.heap.size, 0, none⟩ x q0
      have e1 := fun x y => World.cell?_setCell_same (wr.setCell ⟨w.heap.size, 0, none⟩ x) ⟨w.heap.size, 1, none⟩ y ((set_ne _ _ _ _ _ (by decide)).trans q1)
      have e2 := fun x y z => World.cell?_setCell_same ((wr.setCell ⟨w.heap.size, 0, none⟩ x).setCell ⟨w.heap.size, 1, none⟩ y) ⟨w.heap.size, 2, none⟩ z (((set_ne _ _ _ _ _ (by decide)).trans (set_ne _ _ _ _ _ (by decide))).trans q2)
      obtain ⟨s, HSE⟩ : ∃ s, Hid (bgN zs zs.length = s) := ⟨_, rfl⟩
      rw [HSE.out] at c2
      clear hB
      go_wp2
      exact bodyPost_ret (v := .agg #[.slice a zs.length c, .int .i64 0, .int .u64 s]) (by simp [results, Tryz.results24, go_sem, e0, e1, e2]) rfl ⟨by rw [HSE.out], hbE _ _ _⟩
end Go.Proofs.YtfbjagjgofdheaaGreatDoor

namespace Go.Proofs.YtfbjagjgofdheaaGreatDoor
open Go.RowKit
set_option linter.unusedVariables false

set_option maxHeartbeats 1000000 in
theorem l1Copy_row (v : Value) (zs : List Int) (w : World) (hv : Bts w v zs) (hn : zs.length ≤ 1048576) :
    Calls Tryz.prog 43 #[v] w fun e w' => ∃ u, e = .returned u ∧ Row8 w.heap.size w' u zs ∧ Below w.heap.size w w' := by
  obtain ⟨a, cap, rfl, hc⟩ := hv.shape
  have hsm := hv.small
  go_enter Tryz.func43, Tryz.ntmps43
  go_wp2
  go_loopw [3, 4] (fun u i wr => ∃ k : Nat, k ≤ zs.length ∧ i = .int .i64 k ∧ Row8 w.heap.size wr u (zs.take k) ∧ Below w.heap.size w wr ∧ w.heap.size < wr.heap.size) (fun _ i _ => zs.length - (intOf i).toNat)
  case atStart => exact ⟨0, Nat.zero_le _, rfl, Row8.lit _ _ (Nat.le_refl _) _ rfl, belowA _ _, by simp⟩
  case round =>
    obtain ⟨k, hk, rfl, hown, hbel, hsz⟩ := hrel
    obtain ⟨ua, uc, hua⟩ := hown.shape
    subst hua
    have htl : (zs.take k).length = k := by simp; omega
    have hfl : (zs.take k).length < 140737488355328 := by omega
    have hsz' : w.heap.size ≤ wr.heap.size := by omega
    by_cases hlt : k < zs.length
    · obtain ⟨b, off, rfl, hcell⟩ := hc (by omega)
      have g1 : wr.cell? ⟨b, off + k, none⟩ = some (.int .u8 (zs.getD k 0)) := (hbel.cell (p := ⟨b, off + k, none⟩) (World.block_lt_of_cell? _ _ (hcell k hlt))).trans (hcell k hlt)
      have HG : Hid (zs.take (k + 1) = zs.take k ++ [zs[k]]) := List.take_succ_eq_append_getElem hlt
      clear hc hcell htl
      go_wp2_with (first | (at_builtin; refine wpList_append8 rfl _ _ rfl _ hown rfl rfl hfl hsz' ?_; intro v' w1 hown1 hbel1 hsz1 hgr1) | go_in)
      rw [← HG.out] at hown1
      go_roundw
      case rel => exact ⟨k + 1, by omega, by go_num, hown1, hbel.trans hbel1, by omega⟩
      case measure => simp [intOf]; omega
    · have HT : Hid (zs.take k = zs) := List.take_of_length_le (by omega)
      rw [HT.out] at hown
      rw [HT.out]
      clear hc htl
      go_wp2
      go_ret
      exact ⟨_, rfl, hown, hbel⟩

set_option maxHeartbeats 1000000 in
theorem fCopy_row (v : Value) (zs : List Int) (w : World) (hv : Bts w v zs) (hn : zs.length ≤ 1048576) :
    Calls Tryz.prog 18 #[v] w fun e w' => ∃ u, e = .returned u ∧ Row8 w.heap.size w' u zs ∧ Below w.heap.size w w' := by
  obtain ⟨a, cap, rfl, hc⟩ := hv.shape
  have hsm := hv.small
  go_enter Tryz.func18, Tryz.ntmps18
  go_wp2
  go_loopw [3, 4] (fun u i wr => ∃ k : Nat, k ≤ zs.length ∧ i = .int .i64 k ∧ Row8 w.heap.size wr u (zs.take k) ∧ Below w.heap.size w wr ∧ w.heap.size < wr.heap.size) (fun _ i _ => zs.length - (intOf i).toNat)
  case atStart => exact ⟨0, Nat.zero_le _, rfl, Row8.lit _ _ (Nat.le_refl _) _ rfl, belowA _ _, by simp⟩
  case round =>
    obtain ⟨k, hk, rfl, hown, hbel, hsz⟩ := hrel
    obtain ⟨ua, uc, hua⟩ := hown.shape
    subst hua
    have htl : (zs.take k).length = k := by simp; omega
    have hfl : (zs.take k).length < 140737488355328 := by omega
    have hsz' : w.heap.size ≤ wr.heap.size := by omega
    by_cases hlt : k < zs.length
    · obtain ⟨b, off, rfl, hcell⟩ := hc (by omega)
      have g1 : wr.cell? ⟨b, off + k, none⟩ = some (.int .u8 (zs.getD k 0)) := (hbel.cell (p := ⟨b, off + k, none⟩) (World.block_lt_of_cell? _ _ (hcell k hlt))).trans (hcell k hlt)
      have HG : Hid (zs.take (k + 1) = zs.take k ++ [zs[k]]) := List.take_succ_eq_append_getElem hlt
      clear hc hcell htl
      go_wp2_with (first | (at_builtin; refine wpList_append8 rfl _ _ rfl _ hown rfl rfl hfl hsz' ?_; intro v' w1 hown1 hbel1 hsz1 hgr1) | go_in)
      rw [← HG.out] at hown1
      go_roundw
      case rel => exact ⟨k + 1, by omega, by go_num, hown1, hbel.trans hbel1, by omega⟩
      case measure => simp [intOf]; omega
    · have HT : Hid (zs.take k = zs) := List.take_of_length_le (by omega)
      rw [HT.out] at hown
      rw [HT.out]
      clear hc htl
      go_wp2
      go_ret
      exact ⟨_, rfl, hown, hbel⟩

theorem Row8.frm {base g : Nat} {W W' : World} {u : Value} {zs : List Int} (h : Row8 base W u zs) (hf : Frm (· = g) W W') (hg : g < base) : Row8 base W' u zs := by
  refine ⟨h.1, ?_⟩
  rcases h.2 with hv | ⟨q, cap, cur, hv, e1, e2, e3⟩
  · exact .inl hv
  · exact .inr ⟨q, cap, cur, hv, e1, (hf.block q (Array.getElem?_eq_some_iff.1 e2).1 (by show ¬ q = g; omega)).trans e2, e3⟩
/-- a row laid open -/
theorem Row8.lay {base : Nat} {W : World} {u : Value} {zs : List Int} (h : Row8 base W u zs) (hp : 0 < zs.length) : ∃ q cap cur, u = .slice (some ⟨q, 0, none⟩) zs.length cap ∧ base ≤ q ∧ W.heap[q]? = some (.cells cur 5 (0, 0)) ∧ zs.length ≤ cap ∧ cap ≤ maxLen ∧ cur.size = cap * 1 ∧ cur.toList.take (zs.length * 1) = zs.map (Value.int .u8) := by
  rcases h.2 with ⟨_, h0⟩ | hq
  · omega
  · exact hq
theorem Row8.cut {base q cap m n : Nat} {W : World} {zs : List Int} (h : Row8 base W (.slice (some ⟨q, 0, none⟩) n cap) zs) (hn : n = zs.length) (hm : m ≤ zs.length) (hp : 0 < zs.length) : Row8 base W (.slice (some ⟨q, 0, none⟩) m cap) (zs.take m) := by
  obtain ⟨q', cap', cur, hv, e1, e2, e3, e4, e5, e6⟩ := h.lay hp
  simp only [Value.slice.injEq, Option.some.injEq, Addr.mk.injEq, and_true] at hv
  obtain ⟨rfl, -, rfl⟩ := hv
  have hlm : (zs.take m).length = m := by simp; omega
  refine ⟨by simp, .inr ⟨q, cap, cur, by rw [hlm], e1, e2, by omega, e4, e5, ?_⟩⟩
  rw [hlm, Nat.mul_one, List.map_take, ← e6, List.take_take]
  congr 1
  omega
theorem Row8.put {base q cap n : Nat} {W : World} {zs : List Int} (h : Row8 base W (.slice (some ⟨q, 0, none⟩) n cap) zs) (hn : n = zs.length) (j : Nat) (hj : j < zs.length) (x : Int) : Row8 base (W.setCell ⟨q, j, none⟩ (.int .u8 x)) (.slice (some ⟨q, 0, none⟩) n cap) (zs.set j x) := by
  obtain ⟨q', cap', cur, hv, e1, e2, e3, e4, e5, e6⟩ := h.lay (by omega)
  simp only [Value.slice.injEq, Option.some.injEq, Addr.mk.injEq, and_true] at hv
  obtain ⟨rfl, -, rfl⟩ := hv
  refine ⟨by simp, .inr ⟨q, cap, cur.setIfInBounds j (.int .u8 x), by rw [List.length_set, hn], e1, heap_setCell_same W q j _ _ (.int .u8 x) e2, by rw [List.length_set]; exact e3, e4, by simpa using e5, ?_⟩⟩
  rw [List.length_set, Array.toList_setIfInBounds, List.take_set, e6, List.map_set]
theorem Row8.get {base q cap n : Nat} {W : World} {zs : List Int} (h : Row8 base W (.slice (some ⟨q, 0, none⟩) n cap) zs) (hn : n = zs.length) (j : Nat) (hj : j < zs.length) : W.cell? ⟨q, j, none⟩ = some (.int .u8 (zs.getD j 0)) ∧ W.frozen? ⟨q, j, none⟩ = false := by
  obtain ⟨q', cap', cur, hv, e1, e2, e3, e4, e5, e6⟩ := h.lay (by omega)
  simp only [Value.slice.injEq, Option.some.injEq, Addr.mk.injEq, and_true] at hv
  obtain ⟨rfl, -, rfl⟩ := hv
  refine ⟨?_, frozen_of_row W q j _ _ e2⟩
  rw [cell_of_row W q j _ _ _ e2]
  have : (cur.toList.take (zs.length * 1))[j]? = cur.toList[j]? := by rw [List.getElem?_take, if_pos (by omega)]
  rw [e6] at this
  rw [← Array.getElem?_toList, ← this]
  simp [hj]
theorem xor8_all : ((List.range 256).all fun (m : Nat) => (List.range 8).all fun (s : Nat) => (decide (0 ≤ bits .xor .u8 (m : Int) (2 ^ s % 256)) && decide (bits .xor .u8 (m : Int) (2 ^ s % 256) < 256) && (bits .xor .u8 (m : Int) (2 ^ s % 256) != (m : Int)))) = true := by kernel_rfl
/-- one bit turned: another byte -/
theorem xor8 (m : Int) (s : Nat) (hm : 0 ≤ m ∧ m < 256) (hs : s < 8) : (0 ≤ bits .xor .u8 m (2 ^ s % 256) ∧ bits .xor .u8 m (2 ^ s % 256) < 256) ∧ bits .xor .u8 m (2 ^ s % 256) ≠ m := by
  have h1 := List.all_eq_true.1 xor8_all m.toNat (List.mem_range.2 (by omega))
  have h2 := List.all_eq_true.1 h1 s (List.mem_range.2 hs)
  have e : ((m.toNat : Nat) : Int) = m := by omega
  rw [e] at h2
  simp only [Bool.and_eq_true, decide_eq_true_eq, bne_iff_ne] at h2
  exact ⟨h2.1, h2.2⟩

/-- l2Spoil: the place, what is written there -/
def spA (zs : List Int) (p : Nat × Int) : Int := if nxV zs (nxS zs (nxS zs p)) 2 = 0 then nxV zs (nxS zs (nxS zs (nxS zs p))) 34 else nxV zs (nxS zs p) 128
def spP (zs : List Int) (p : Nat × Int) : Nat × Int := if nxV zs (nxS zs (nxS zs p)) 2 = 0 then nxS zs (nxS zs (nxS zs (nxS zs p))) else nxS zs (nxS zs (nxS zs p))
def spB (zs : List Int) (p : Nat × Int) (bs : List Int) : Int := if nxV zs (spP zs p) 2 = 0 then bits .xor .u8 (bs.getD (spA zs p).toNat 0) (2 ^ (nxV zs (nxS zs (spP zs p)) 8).toNat % 256) else nxV zs (nxS zs (spP zs p)) 26
def spO (zs : List Int) (p : Nat × Int) (bs : List Int) : List Int := bs.set (spA zs p).toNat (spB zs p bs)
def spD (zs : List Int) (p : Nat × Int) (bs : List Int) : List Int := if nxV zs p 8 = 0 then bs.take 127 else if nxV zs p 8 = 1 then bs ++ [0] else if 4 ≤ nxV zs p 8 then sealL ((spO zs p bs).take 124) else spO zs p bs
theorem spA_in (zs : List Int) (p : Nat × Int) : 0 ≤ spA zs p ∧ spA zs p < 128 := by
  have h1 := nxV_in zs (nxS zs (nxS zs (nxS zs p))) (n := 34) (by decide) (by decide)
  have h2 := nxV_in zs (nxS zs p) (n := 128) (by decide) (by decide)
  unfold spA
  split <;> omega
theorem spB_in (zs : List Int) (p : Nat × Int) {bs : List Int} (hb : Byt bs) : 0 ≤ spB zs p bs ∧ spB zs p bs < 256 := by
  have h1 := nxV_in zs (nxS zs (spP zs p)) (n := 8) (by decide) (by decide)
  have h2 := nxV_in zs (nxS zs (spP zs p)) (n := 26) (by decide) (by decide)
  unfold spB
  split
  · exact (xor8 _ _ (hb _) (by omega)).1
  · omega
theorem byt_set {bs : List Int} (hb : Byt bs) (j : Nat) {x : Int} (hx : 0 ≤ x ∧ x < 256) : Byt (bs.set j x) := fun i => by
  rw [List.getD_eq_getElem?_getD, List.getElem?_set]
  by_cases e : j = i
  · by_cases hl : j < bs.length
    · rw [if_pos e, if_pos hl]; exact hx
    · rw [if_pos e, if_neg hl]; simp
  · rw [if_neg e, ← List.getD_eq_getElem?_getD]; exact hb i
theorem byt_take {bs : List Int} (hb : Byt bs) (m : Nat) : Byt (bs.take m) := fun i => by
  rw [List.getD_eq_getElem?_getD, List.getElem?_take]
  by_cases e : i < m
  · rw [if_pos e, ← List.getD_eq_getElem?_getD]; exact hb i
  · rw [if_neg e]; simp
theorem spO_byt (zs : List Int) (p : Nat × Int) {bs : List Int} (hb : Byt bs) : Byt (spO zs p bs) := byt_set hb _ (spB_in zs p hb)
theorem spD_byt (zs : List Int) (p : Nat × Int) {bs : List Int} (hb : Byt bs) : Byt (spD zs p bs) := by
  unfold spD
  split
  · exact byt_take hb _
  · split
    · exact Byt.append hb (fun i => by match i with | 0 => simp | i + 1 => simp)
    · split
      · exact (byt_take (spO_byt zs p hb) _).seal
      · exact spO_byt zs p hb
end Go.Proofs.YtfbjagjgofdheaaGreatDoor
