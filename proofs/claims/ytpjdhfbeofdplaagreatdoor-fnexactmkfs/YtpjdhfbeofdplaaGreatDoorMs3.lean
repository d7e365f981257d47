import Derived.Test.YtpjdhfbeofdplaaGreatDoorMs1
namespace Go.Proofs.YtpjdhfbeofdplaaGreatDoor
open Go.RowKit

/-- nothing but rows of type e may have changed -/
def NoT (e : TypeId) (w w' : World) : Prop := w.heap.size ≤ w'.heap.size ∧ ∀ g, g < w.heap.size → (∀ cs fr, w.heap[g]? ≠ some (.cells cs e fr)) → w'.heap[g]? = w.heap[g]?
theorem NoT.of_below {e : TypeId} {w w' : World} (h : Below w.heap.size w w') : NoT e w w' := ⟨h.size, fun g hg _ => h.block g hg⟩
theorem NoT.refl (e : TypeId) (w : World) : NoT e w w := ⟨Nat.le_refl _, fun _ _ _ => rfl⟩
theorem NoT.trans {e : TypeId} {a b c : World} (h : NoT e a b) (k : NoT e b c) : NoT e a c :=
  ⟨Nat.le_trans h.1 k.1, fun g hg hn => by
    have e1 := h.2 g hg hn
    exact (k.2 g (Nat.lt_of_lt_of_le hg h.1) (fun cs fr => by rw [e1]; exact hn cs fr)).trans e1⟩
theorem NoT.cells {e : TypeId} {w w' : World} (h : NoT e w w') {g : Nat} {cs : Array Value} {t : TypeId} {fr : Nat × Nat} (e1 : w.heap[g]? = some (.cells cs t fr)) (ht : t ≠ e) : w'.heap[g]? = some (.cells cs t fr) :=
  (h.2 g (Array.getElem?_eq_some_iff.1 e1).1 (fun cs' fr' e' => by rw [e1] at e'; simp at e'; exact ht e'.2.1)).trans e1

/-- an append to a row of the call's own: nothing else changes -/
theorem wpList_appendT {ops : Array Oper} {rest : List Oper} {o : Oper} {a : Act} {Q : Exit → Act → World → Prop} (hgd : o.guard = none) (s x : Operand) (st e : TypeId) (z : Value) (size bytes : Nat)
    (hu : Tryz.prog.underlying st = some (.slice e)) (hinfo : (Tryz.prog.info? e).map (fun i => (i.zero, i.size, i.bytes)) = some (some z, size, bytes)) (hzs : z.cells.size = size) (hsz : 0 < size)
    (ho : o.op = .call { callee := .builtin .append, args := #[s, x], argTypes := #[st, st] })
    {base : Nat} {w0 : World} {v : Value} {n : Nat} {cs : List Value} (hown : w0.ownsRow base e size v n cs) (hs : a.eval s = v) (ad : Addr) (m c : Nat) (hx : a.eval x = .slice (some ad) m c) (news : List Value) (hl : news.length = m * size)
    (hnews : ∀ j u, news[j]? = some u → w0.cell? (ad.add j) = some u) (h1 : ∀ u ∈ news, u.oneCell' = true) (hlen : n + m ≤ 100000) (hby : bytes ≤ 1000) (hb : base ≤ w0.heap.size)
    (h : ∀ v' w', w'.ownsRow base e size v' (n + m) (cs ++ news) → NoT e w0 w' → Below base w0 w' → wpList Tryz.prog ops Q rest (a.put o.dst v') w') :
    wpList Tryz.prog ops Q (o :: rest) a w0 := by
  obtain ⟨i0, hi, hzz⟩ := Option.map_eq_some_iff.1 hinfo
  simp only [Prod.mk.injEq] at hzz
  obtain ⟨hz0, hz1, hz2⟩ := hzz
  have hbb : (n + m) * bytes ≤ 140737488355328 := Nat.le_trans (Nat.mul_le_mul hlen hby) (by omega)
  refine wpList_append_own _ hgd s x st ho base e i0 z size bytes hu hi hz0 hz1 hz2 hzs hsz v n cs hs hown ad m c news hx hl hnews h1 (by unfold maxLen; omega) hbb hb ?_
  intro v' w' h2 h3 _
  refine h v' w' h2 ⟨h3.size, fun g hg hn => h3.block g hg fun e1 => ?_⟩ ((Below.refl base w0).grown h3 hb fun k hk => ?_)
  · rcases hown.2 with ⟨hv, _⟩ | ⟨g', cap, cur, hv, _, hg', _⟩
    · rw [hv] at e1; cases e1
    · rw [hv] at e1
      simp only [Value.ownBlock, Option.some.injEq] at e1
      subst e1
      exact hn _ _ hg'
  · exact (World.ownsRow.lt hown k hk).1
theorem row_below {base : Nat} {e : TypeId} {size : Nat} {w w' : World} {v : Value} {n : Nat} {cs : List Value} (h : w.ownsRow base e size v n cs) (k : Below w.heap.size w w') : w'.ownsRow base e size v n cs := by
  refine ⟨h.1, ?_⟩
  rcases h.2 with hv | ⟨g, cap, cur, hv, h1, h2, h3⟩
  · exact .inl hv
  · exact .inr ⟨g, cap, cur, hv, h1, (k.block g (Array.getElem?_eq_some_iff.1 h2).1).trans h2, h3⟩

set_option maxHeartbeats 1000000 in
theorem l4Zeros_any (n : Nat) (hn : n ≤ 512) (w : World) : Calls Tryz.prog 33 #[.int .i64 n] w fun e w' => ∃ u, e = .returned u ∧ Row64 w.heap.size w' u (List.replicate n 0) ∧ Below w.heap.size w w' := by
  go_enter Tryz.func33, Tryz.ntmps33
  go_wp2
  go_loopw [3, 4] (fun u i wr => ∃ k : Nat, k ≤ n ∧ i = .int .i64 k ∧ Row64 w.heap.size wr u (List.replicate k 0) ∧ Below w.heap.size w wr) (fun _ i _ => n - (intOf i).toNat)
  case atStart => exact ⟨0, Nat.zero_le _, rfl, Row64.lit _ _ (Nat.le_refl _) _ rfl, (Below.refl _ _).alloc (Nat.le_refl _) _⟩
  case round =>
    obtain ⟨k, hk, rfl, hown, hb⟩ := hrel
    have hsz := hb.size
    by_cases hlt : k < n
    · have hki : (k : Int) < (n : Int) := by omega
      have HSN : Hid (List.replicate (k + 1) (0 : Int) = List.replicate k 0 ++ [0]) := List.replicate_succ'
      have hfl : (List.replicate k (0 : Int)).length < 8589934592 := by simp; omega
      have HL : Hid ((List.replicate k (0 : Int)).length = k) := List.length_replicate
      generalize List.replicate k (0 : Int) = ys at *
      go_wp2_with (first | (at_builtin; refine wpList_append64 rfl _ _ rfl _ hown rfl rfl hfl hsz ?_; intro v' w1 hown1 hbel1 hsz1 hgr1) | go_in)
      rw [← HSN.out] at hown1
      go_roundw
      case rel => exact ⟨k + 1, by omega, by go_num, hown1, hb.trans hbel1⟩
      case measure => simp [intOf]; omega
    · obtain rfl : k = n := by omega
      go_wp2
      go_ret
      exact ⟨_, rfl, hown, hb⟩

end Go.Proofs.YtpjdhfbeofdplaaGreatDoor
