import Derived.Test.YtamblkibmlfklabDoorDr2
namespace Go.Proofs.YtamblkibmlfklabDoor
open Go.RowKit
set_option linter.unusedVariables false

/-- v is a row of the call's own that reads as zs: it may be appended to; it lies in a block of S -/
def RowS (S : Nat → Prop) (w : World) (v : Value) (zs : List Int) : Prop := w.ownsRow 0 2 1 v zs.length (zs.map (Value.int .i64)) ∧ ∀ b, v.ownBlock = some b → S b

theorem RowS.shape {S : Nat → Prop} {w : World} {v : Value} {zs : List Int} (h : RowS S w v zs) : ∃ a cap, v = .slice a zs.length cap := by
  rcases h.1.2 with ⟨hv, hn⟩ | ⟨g, cap, cur, hv, _⟩
  · exact ⟨none, 0, by rw [hv, hn]⟩
  · exact ⟨_, _, hv⟩
theorem RowS.frm {S T : Nat → Prop} {w w' : World} {v : Value} {zs : List Int} (h : RowS S w v zs) (k : Frm T w w') (hd : ∀ b, S b → ¬ T b) : RowS S w' v zs := by
  refine ⟨⟨h.1.1, ?_⟩, h.2⟩
  have hlt := h.1.lt
  rcases h.1.2 with e | ⟨g, cap, cur, hv, e1, e2, e3⟩
  · exact .inl e
  · subst hv
    exact .inr ⟨g, cap, cur, rfl, e1, (k.block g (hlt g rfl).2 (hd g (h.2 g rfl))).trans e2, e3⟩
theorem RowS.mono {S T : Nat → Prop} {w : World} {v : Value} {zs : List Int} (h : RowS S w v zs) (hd : ∀ b, b < w.heap.size → S b → T b) : RowS T w v zs := ⟨h.1, fun b e => hd b (h.1.lt b e).2 (h.2 b e)⟩
theorem RowS.nts {S : Nat → Prop} {w : World} {v : Value} {zs : List Int} (h : RowS S w v zs) (hz : ∀ i, -9223372036854775808 ≤ zs.getD i 0 ∧ zs.getD i 0 ≤ 9223372036854775807) : Nts w v zs := (Own64.of_row h.1 hz).nts

/-- 'out = append(out, c)' -/
theorem wpList_appendS {ops : Array Oper} {rest : List Oper} {o : Oper} {a : Act} {Q : Exit → Act → World → Prop} (hgd : o.guard = none) (s x : Operand)
    (ho : o.op = .call { callee := .builtin .append, args := #[s, x], argTypes := #[23, 23] })
    {S : Nat → Prop} {w0 : World} {v : Value} {zs : List Int} (c : Int) (hown : RowS S w0 v zs) (hs : a.eval s = v) (hx : a.eval x = .slice (some ⟨w0.heap.size, 0, none⟩) 1 1)
    (hlen : zs.length < 8589934592) (hS : ∀ b, w0.heap.size ≤ b → S b)
    (h : ∀ v' w', RowS S w' v' (zs ++ [c]) → Frm S w0 w' → wpList Tryd.prog ops Q rest (a.put o.dst v') w') :
    wpList Tryd.prog ops Q (o :: rest) a (w0.alloc (.cells #[.int .i64 c] 2)) := by
  obtain ⟨i0, hi, hz0, hz1, hz2⟩ := info_parts info64
  refine wpList_append_own_at _ hgd s x 23 ho 0 2 i0 (.int .i64 0) 1 8 Tryd.underlying23 hi hz0 hz1 hz2 rfl (by decide) v _ _ hs (hown.1.alloc _) ⟨w0.heap.size, 0, none⟩ 1 1 [.int .i64 c] hx rfl (cell_one_new _ _ _) ?_ ?_ ?_ (Nat.zero_le _) ?_
  · intro u hu; simp at hu; subst hu; rfl
  · unfold maxLen; omega
  · omega
  · intro v' w' h1 h2 _ h4
    have hA : Below w0.heap.size w0 (w0.alloc (.cells #[.int .i64 c] 2)) := (Below.refl _ _).alloc (Nat.le_refl _) _
    refine h v' w' ⟨by simpa using h1, fun b e => ?_⟩ ⟨h2.os.trans hA.os, h2.tape.trans hA.tape, h2.output.trans hA.output, Nat.le_trans hA.size h2.size, fun k hk hn => (h2.block k (by simp; omega) fun e => hn (hown.2 k e.symm)).trans (hA.block k hk)⟩
    rcases h4 with e' | e'
    · exact hown.2 b (by rw [← e']; exact e)
    · rw [e'] at e
      simp only [Option.some.injEq] at e
      subst e
      exact hS _ (by simp)

theorem bnd_snoc {ys : List Int} (h : ∀ i, 0 ≤ ys.getD i 0 ∧ ys.getD i 0 ≤ 65535) {x : Int} (hx : 0 ≤ x ∧ x ≤ 65535) (i : Nat) : 0 ≤ (ys ++ [x]).getD i 0 ∧ (ys ++ [x]).getD i 0 ≤ 65535 := by
  by_cases h1 : i < ys.length
  · have := h i
    simp only [List.getD_eq_getElem?_getD, List.getElem?_append_left h1] at this ⊢
    exact this
  · by_cases h2 : i = ys.length
    · subst h2; simp; exact hx
    · have : (ys ++ [x]).getD i 0 = 0 := by simp [List.getElem?_eq_none (show (ys ++ [x]).length ≤ i by simp; omega)]
      rw [this]; omega

/-- the counts under way -/
structure DrC (base g : Nat) (a : Option Addr) (c : Nat) (zs : List Int) (w : World) (k : Nat) (u : Value) (ys : List Int) (wr : World) : Prop where
  len : ys.length = k
  num : ∀ i, 0 ≤ ys.getD i 0 ∧ ys.getD i 0 ≤ 65535
  row : RowS (fun b => w.heap.size ≤ b) wr u ys
  src : Src base g a c zs wr
  frm : Frm (fun b => b = g ∨ w.heap.size ≤ b) w wr
theorem DrC.drawn {base g : Nat} {a : Option Addr} {c : Nat} {zs : List Int} {w : World} {k : Nat} {u : Value} {ys : List Int} {wr w' : World} (h : DrC base g a c zs w k u ys wr) (hg : g < w.heap.size) (hs : Src base g a c zs w') (hf : Frm (· = g) wr w') : DrC base g a c zs w k u ys w' :=
  ⟨h.len, h.num, h.row.frm hf (fun b h1 h2 => by omega), hs, h.frm.trans (hf.mono fun b _ e => .inl e)⟩
theorem DrC.more {base g : Nat} {a : Option Addr} {c : Nat} {zs : List Int} {w : World} {k : Nat} {u v' : Value} {ys : List Int} {wr w' : World} {x : Int} (h : DrC base g a c zs w k u ys wr) (hg : g < w.heap.size) (hb : base ≤ w.heap.size) (hx : 0 ≤ x ∧ x ≤ 65535) (hr : RowS (fun b => w.heap.size ≤ b) w' v' (ys ++ [x])) (hf : Frm (fun b => w.heap.size ≤ b) wr w') : DrC base g a c zs w (k + 1) v' (ys ++ [x]) w' :=
  ⟨by simp [h.len], bnd_snoc h.num hx, hr, h.src.frm hf (by omega) (fun b e => by omega), h.frm.trans (hf.mono fun b _ e => .inr e)⟩

set_option maxHeartbeats 8000000 in
theorem l3DrawCounts_any (base g : Nat) (a : Option Addr) (c : Nat) (zs : List Int) (n : Nat) (hn : 8 ≤ n ∧ n ≤ 512) (w : World) (hs : Src base g a c zs w) :
    Calls Tryd.prog 29 #[.pointer (some ⟨g, 0, none⟩), .int .i64 n] w fun e w' => ∃ u ys, e = .returned u ∧ ys.length = n ∧ (∀ i, 0 ≤ ys.getD i 0 ∧ ys.getD i 0 ≤ 65535) ∧ RowS (fun b => w.heap.size ≤ b ∧ b < w'.heap.size) w' u ys ∧ Src base g a c zs w' ∧ Frm (· = g) w w' := by
  have hg := hs.lt
  have hbase : base ≤ w.heap.size := by have := hs.lo; omega
  have hA : Below w.heap.size w (w.alloc (.cells #[.int .i64 0, .int .i64 0] 2)) := (Below.refl _ _).alloc (Nat.le_refl _) _
  have hfA : Frm (fun b => w.heap.size ≤ b) w (w.alloc (.cells #[.int .i64 0, .int .i64 0] 2)) := Frm.of_below hA
  have hD0 : DrC base g a c zs w 2 (.slice (some ⟨w.heap.size, 0, none⟩) 2 2) [0, 0] (w.alloc (.cells #[.int .i64 0, .int .i64 0] 2)) :=
    ⟨rfl, fun i => by rcases i with _ | _ | i <;> simp, ⟨World.ownsRow_lit (e := 2) (size := 1) w #[.int .i64 0, .int .i64 0] 2 (Nat.zero_le _) (by decide) rfl, fun b e => by simp [Value.ownBlock] at e; omega⟩, hs.frm hfA (by omega) (fun b e => by omega), hfA.mono fun b _ e => .inr e⟩
  go_enter Tryd.func29, Tryd.ntmps29
  go_wp2_with fail
  refine (l1Next_any base g a c zs 5 (by decide) (by decide) _ hD0.src).mono ?_
  rintro e w1 ⟨way, rfl, hw0, hw5, hs1, hf1⟩
  have hD1 := hD0.drawn hg hs1 hf1
  clear hD0 hs1 hf1 hA hfA hs
  go_wp2
  go_loopw [5, 7, 8] (fun u now i wr => ∃ (k : Nat) (x : Int) (ys : List Int), 2 ≤ k ∧ k ≤ n ∧ i = .int .i64 k ∧ now = .int .i64 x ∧ 0 ≤ x ∧ x ≤ 65535 ∧ DrC base g a c zs w k u ys wr) (fun _ _ i _ => n - (intOf i).toNat)
  case atStart => exact ⟨2, 0, [0, 0], by omega, by omega, rfl, rfl, by omega, by omega, hD1⟩
  case round =>
    obtain ⟨k, x, ys, hk2, hk, rfl, rfl, hx0, hx1, hD⟩ := hrel
    clear hD1
    by_cases hlt : k < n
    · have hi : (k : Int) < (n : Int) := by omega
      have hyl : ys.length < 8589934592 := by have := hD.len; omega
      have HS : Hid (∀ w : World, w.heap.size ≤ w.heap.size) := fun _ => Nat.le_refl _
      by_cases h0 : way = 0
      · subst h0
        go_wp2_with fail
        refine (l1Next_any base g a c zs 3 (by decide) (by decide) _ hD.src).mono ?_
        rintro e y_w ⟨y, rfl, y0, y1, y_s, y_f⟩
        have hy := hD.drawn hg y_s y_f
        clear hD y_s y_f
        have hR := hy.row
        have hS := hy.frm.size
        have HD : Hid _ := hy
        clear hy
        go_wp2_with (first | (at_builtin; refine wpList_appendS rfl _ _ rfl _ hR rfl rfl hyl (fun b e => by omega) ?_; intro v2 w2 hR2 hF2) | go_in)
        go_roundw
        case rel => exact ⟨k + 1, _, _, by omega, by omega, by go_num, rfl, by omega, by omega, HD.out.more hg hbase ⟨by omega, by omega⟩ hR2 hF2⟩
        case measure => simp [intOf]; omega
      · have h0' : (way == 0) = false := by simpa using h0
        by_cases h1 : way = 1
        · subst h1
          have hm : (k : Int).tmod 2 = (k : Int) % 2 := Int.tmod_eq_emod_of_nonneg (by omega)
          have hR := hD.row
          have hS := hD.frm.size
          have HD : Hid _ := hD
          clear hD
          go_wp2_with (first | (at_builtin; refine wpList_appendS rfl _ _ rfl _ hR rfl rfl hyl (fun b e => by omega) ?_; intro v2 w2 hR2 hF2) | go_in)
          go_roundw
          case rel => exact ⟨k + 1, _, _, by omega, by omega, by go_num, rfl, by omega, by omega, HD.out.more hg hbase ⟨by omega, by omega⟩ hR2 hF2⟩
          case measure => simp [intOf]; omega
        · have h1' : (way == 1) = false := by simpa using h1
          by_cases h2 : way = 2
          · subst h2
            have hm : (k : Int).tmod 3 = (k : Int) % 3 := Int.tmod_eq_emod_of_nonneg (by omega)
            have hm2 : ((k : Int) % 3).tmod 2 = (k : Int) % 3 % 2 := Int.tmod_eq_emod_of_nonneg (by omega)
            have hR := hD.row
            have hS := hD.frm.size
            have HD : Hid _ := hD
            clear hD
            go_wp2_with (first | (at_builtin; refine wpList_appendS rfl _ _ rfl _ hR rfl rfl hyl (fun b e => by omega) ?_; intro v2 w2 hR2 hF2) | go_in)
            go_roundw
            case rel => exact ⟨k + 1, _, _, by omega, by omega, by go_num, rfl, by omega, by omega, HD.out.more hg hbase ⟨by omega, by omega⟩ hR2 hF2⟩
            case measure => simp [intOf]; omega
          · have h2' : (way == 2) = false := by simpa using h2
            go_wp2_with fail
            refine (l1Next_any base g a c zs 4 (by decide) (by decide) _ hD.src).mono ?_
            rintro e p_w ⟨p, rfl, p0, p1, p_s, p_f⟩
            have hp := hD.drawn hg p_s p_f
            clear hD p_s p_f
            by_cases p_z : p = 0
            · subst p_z
              go_wp2_with fail
              refine (l1Next_any base g a c zs 3 (by decide) (by decide) _ hp.src).mono ?_
              rintro e y_w ⟨y, rfl, y0, y1, y_s, y_f⟩
              have hy := hp.drawn hg y_s y_f
              clear hp y_s y_f
              by_cases h4 : way = 4
              · subst h4
                go_wp2_with fail
                refine (l1Next_any base g a c zs 40 (by decide) (by decide) _ hy.src).mono ?_
                rintro e q_w ⟨q, rfl, q0, q1, q_s, q_f⟩
                have hq := hy.drawn hg q_s q_f
                clear hy q_s q_f
                by_cases q_z : q = 0
                · subst q_z
                  have hR := hq.row
                  have hS := hq.frm.size
                  have HD : Hid _ := hq
                  clear hq
                  go_wp2_with (first | (at_builtin; refine wpList_appendS rfl _ _ rfl _ hR rfl rfl hyl (fun b e => by omega) ?_; intro v2 w2 hR2 hF2) | go_in)
                  go_roundw
                  case rel => exact ⟨k + 1, _, _, by omega, by omega, by go_num, rfl, by omega, by omega, HD.out.more hg hbase ⟨by omega, by omega⟩ hR2 hF2⟩
                  case measure => simp [intOf]; omega
                · have q_n : (q == 0) = false := by simpa using q_z
                  have hR := hq.row
                  have hS := hq.frm.size
                  have HD : Hid _ := hq
                  clear hq
                  go_wp2_with (first | (at_builtin; refine wpList_appendS rfl _ _ rfl _ hR rfl rfl hyl (fun b e => by omega) ?_; intro v2 w2 hR2 hF2) | go_in)
                  go_roundw
                  case rel => exact ⟨k + 1, _, _, by omega, by omega, by go_num, rfl, by omega, by omega, HD.out.more hg hbase ⟨by omega, by omega⟩ hR2 hF2⟩
                  case measure => simp [intOf]; omega
              · have h4' : (way == 4) = false := by simpa using h4
                have hR := hy.row
                have hS := hy.frm.size
                have HD : Hid _ := hy
                clear hy
                go_wp2_with (first | (at_builtin; refine wpList_appendS rfl _ _ rfl _ hR rfl rfl hyl (fun b e => by omega) ?_; intro v2 w2 hR2 hF2) | go_in)
                go_roundw
                case rel => exact ⟨k + 1, _, _, by omega, by omega, by go_num, rfl, by omega, by omega, HD.out.more hg hbase ⟨by omega, by omega⟩ hR2 hF2⟩
                case measure => simp [intOf]; omega
            · have p_n : (p == 0) = false := by simpa using p_z
              by_cases h4 : way = 4
              · subst h4
                go_wp2_with fail
                refine (l1Next_any base g a c zs 40 (by decide) (by decide) _ hp.src).mono ?_
                rintro e q_w ⟨q, rfl, q0, q1, q_s, q_f⟩
                have hq := hp.drawn hg q_s q_f
                clear hp q_s q_f
                by_cases q_z : q = 0
                · subst q_z
                  have hR := hq.row
                  have hS := hq.frm.size
                  have HD : Hid _ := hq
                  clear hq
                  go_wp2_with (first | (at_builtin; refine wpList_appendS rfl _ _ rfl _ hR rfl rfl hyl (fun b e => by omega) ?_; intro v2 w2 hR2 hF2) | go_in)
                  go_roundw
                  case rel => exact ⟨k + 1, _, _, by omega, by omega, by go_num, rfl, by omega, by omega, HD.out.more hg hbase ⟨by omega, by omega⟩ hR2 hF2⟩
                  case measure => simp [intOf]; omega
                · have q_n : (q == 0) = false := by simpa using q_z
                  have hR := hq.row
                  have hS := hq.frm.size
                  have HD : Hid _ := hq
                  clear hq
                  go_wp2_with (first | (at_builtin; refine wpList_appendS rfl _ _ rfl _ hR rfl rfl hyl (fun b e => by omega) ?_; intro v2 w2 hR2 hF2) | go_in)
                  go_roundw
                  case rel => exact ⟨k + 1, _, _, by omega, by omega, by go_num, rfl, by omega, by omega, HD.out.more hg hbase ⟨by omega, by omega⟩ hR2 hF2⟩
                  case measure => simp [intOf]; omega
              · have h4' : (way == 4) = false := by simpa using h4
                have hR := hp.row
                have hS := hp.frm.size
                have HD : Hid _ := hp
                clear hp
                go_wp2_with (first | (at_builtin; refine wpList_appendS rfl _ _ rfl _ hR rfl rfl hyl (fun b e => by omega) ?_; intro v2 w2 hR2 hF2) | go_in)
                go_roundw
                case rel => exact ⟨k + 1, _, _, by omega, by omega, by go_num, rfl, by omega, by omega, HD.out.more hg hbase ⟨by omega, by omega⟩ hR2 hF2⟩
                case measure => simp [intOf]; omega
    · have hi : ¬ (k : Int) < (n : Int) := by omega
      have hkn : k = n := by omega
      go_wp2
      refine bodyPost_ret (by simp [results, Tryd.results29, go_sem]; rfl) rfl ?_
      exact ⟨_, rfl, ys, by rw [hD.len, hkn], hD.num, hD.row.mono (fun b h1 h2 => ⟨h2, h1⟩), hD.src, hD.frm.mono fun b h1 h2 => by omega⟩
end Go.Proofs.YtamblkibmlfklabDoor
