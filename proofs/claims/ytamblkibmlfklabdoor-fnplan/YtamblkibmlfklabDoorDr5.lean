import Derived.Test.YtamblkibmlfklabDoorDr4
namespace Go.Proofs.YtamblkibmlfklabDoor
open Go.RowKit
set_option linter.unusedVariables false

/-- two rows of counts, apart, and the source -/
structure DrT (base g : Nat) (a : Option Addr) (c : Nat) (zs : List Int) (w : World) (n : Nat) (u : Value) (xs : List Int) (v : Value) (ys : List Int) (wr : World) : Prop where
  xl : xs.length = n
  yl : ys.length = n
  xb : ∀ i, 0 ≤ xs.getD i 0 ∧ xs.getD i 0 ≤ 65535
  yb : ∀ i, 0 ≤ ys.getD i 0 ∧ ys.getD i 0 ≤ 65535
  rows : ∃ Sc Sm : Nat → Prop, RowS Sc wr u xs ∧ RowS Sm wr v ys ∧ (∀ b, Sc b → ¬ Sm b) ∧ (∀ b, Sc b → w.heap.size ≤ b ∧ b < wr.heap.size) ∧ (∀ b, Sm b → w.heap.size ≤ b ∧ b < wr.heap.size)
  src : Src base g a c zs wr
  frm : Frm (fun b => b = g ∨ w.heap.size ≤ b) w wr
theorem wide {xs : List Int} (h : ∀ i, 0 ≤ xs.getD i 0 ∧ xs.getD i 0 ≤ 65535) (i : Nat) : -9223372036854775808 ≤ xs.getD i 0 ∧ xs.getD i 0 ≤ 9223372036854775807 := by have := h i; omega
theorem DrT.drawn {base g : Nat} {a : Option Addr} {c : Nat} {zs : List Int} {w : World} {n : Nat} {u v : Value} {xs ys : List Int} {wr w' : World} (h : DrT base g a c zs w n u xs v ys wr) (hg : g < w.heap.size) (hs : Src base g a c zs w') (hf : Frm (· = g) wr w') : DrT base g a c zs w n u xs v ys w' := by
  obtain ⟨Sc, Sm, r1, r2, r3, r4, r5⟩ := h.rows
  refine ⟨h.xl, h.yl, h.xb, h.yb, ⟨Sc, Sm, r1.frm hf (fun b h1 h2 => by have := (r4 b h1).1; omega), r2.frm hf (fun b h1 h2 => by have := (r5 b h1).1; omega), r3, fun b e => ⟨(r4 b e).1, by have := (r4 b e).2; have := hf.size; omega⟩, fun b e => ⟨(r5 b e).1, by have := (r5 b e).2; have := hf.size; omega⟩⟩, hs, h.frm.trans (hf.mono fun b _ e => .inl e)⟩
theorem DrT.both {base g : Nat} {a : Option Addr} {c : Nat} {zs : List Int} {w : World} {n : Nat} {u v : Value} {xs ys : List Int} {wr : World} (h : DrT base g a c zs w n u xs v ys wr) : Nts wr u xs ∧ Nts wr v ys := by
  obtain ⟨Sc, Sm, r1, r2, r3, r4, r5⟩ := h.rows
  exact ⟨r1.nts (wide h.xb), r2.nts (wide h.yb)⟩
theorem DrT.spoil1 {base g : Nat} {a : Option Addr} {c : Nat} {zs : List Int} {w : World} {n : Nat} {u v : Value} {xs ys : List Int} {wr : World} (h : DrT base g a c zs w n u xs v ys wr) (hg : g < w.heap.size) (hn : 8 ≤ n ∧ n ≤ 512) :
    Calls Tryd.prog 31 #[.pointer (some ⟨g, 0, none⟩), u] wr fun e w' => ∃ u' xs', e = .returned u' ∧ xs'.length ≤ 513 ∧ Nts w' u' xs' ∧ Nts w' v ys ∧ Frm (fun b => b = g ∨ w.heap.size ≤ b) w w' := by
  obtain ⟨Sc, Sm, r1, r2, r3, r4, r5⟩ := h.rows
  have hsz := h.frm.size
  refine (l3SpoilCounts_any base g a c zs (fun b => Sc b ∨ wr.heap.size ≤ b) u xs (by rw [h.xl]; exact hn) (wide h.xb) wr h.src (r1.mono fun b _ e => .inl e) (fun b e => .inr e) (fun e => by rcases e with e | e; have := (r4 g e).1; omega; omega)).mono ?_
  rintro e w' ⟨u', xs', rfl, h1, h2, h3⟩
  refine ⟨u', xs', rfl, h1, h2, (r2.frm h3 (fun b e1 e2 => ?_)).nts (wide h.yb), h.frm.trans (h3.mono fun b _ e => ?_)⟩
  · have q := r5 b e1
    rcases e2 with e2 | e2 | e2
    · omega
    · exact r3 b e2 e1
    · omega
  · rcases e with e | e | e
    · exact .inl e
    · exact .inr (r4 b e).1
    · exact .inr (by omega)
theorem DrT.spoil2 {base g : Nat} {a : Option Addr} {c : Nat} {zs : List Int} {w : World} {n : Nat} {u v : Value} {xs ys : List Int} {wr : World} (h : DrT base g a c zs w n u xs v ys wr) (hg : g < w.heap.size) (hn : 8 ≤ n ∧ n ≤ 512) :
    Calls Tryd.prog 31 #[.pointer (some ⟨g, 0, none⟩), v] wr fun e w' => ∃ v' ys', e = .returned v' ∧ ys'.length ≤ 513 ∧ Nts w' u xs ∧ Nts w' v' ys' ∧ Frm (fun b => b = g ∨ w.heap.size ≤ b) w w' := by
  obtain ⟨Sc, Sm, r1, r2, r3, r4, r5⟩ := h.rows
  have hsz := h.frm.size
  refine (l3SpoilCounts_any base g a c zs (fun b => Sm b ∨ wr.heap.size ≤ b) v ys (by rw [h.yl]; exact hn) (wide h.yb) wr h.src (r2.mono fun b _ e => .inl e) (fun b e => .inr e) (fun e => by rcases e with e | e; have := (r5 g e).1; omega; omega)).mono ?_
  rintro e w' ⟨u', xs', rfl, h1, h2, h3⟩
  refine ⟨u', xs', rfl, h1, (r1.frm h3 (fun b e1 e2 => ?_)).nts (wide h.xb), h2, h.frm.trans (h3.mono fun b _ e => ?_)⟩
  · have q := r4 b e1
    rcases e2 with e2 | e2 | e2
    · omega
    · exact r3 b e1 e2
    · omega
  · rcases e with e | e | e
    · exact .inl e
    · exact .inr (r5 b e).1
    · exact .inr (by omega)

set_option maxHeartbeats 8000000 in
theorem l3DrawTwo_any (base g : Nat) (a : Option Addr) (c : Nat) (zs : List Int) (w : World) (hs : Src base g a c zs w) :
    Calls Tryd.prog 15 #[.pointer (some ⟨g, 0, none⟩)] w fun e w' => ∃ u v xs ys, e = .returned (.tuple #[u, v]) ∧ xs.length ≤ 513 ∧ ys.length ≤ 513 ∧ Nts w' u xs ∧ Nts w' v ys ∧ Frm (fun b => b = g ∨ w.heap.size ≤ b) w w' := by
  have hg := hs.lt
  go_enter Tryd.func15, Tryd.ntmps15
  go_wp2_with fail
  refine (l1DrawBlocks_any base g a c zs _ hs).mono ?_
  rintro e w1 ⟨n, rfl, hn8, hn5, hs1, hf1⟩
  go_wp2_with fail
  refine (l3DrawCounts_any base g a c zs n ⟨hn8, hn5⟩ _ hs1).mono ?_
  rintro e w2 ⟨u, xs, rfl, hxl, hxb, hxr, hs2, hf2⟩
  go_wp2_with fail
  refine (l3DrawCounts_any base g a c zs n ⟨hn8, hn5⟩ _ hs2).mono ?_
  rintro e w3 ⟨v, ys, rfl, hyl, hyb, hyr, hs3, hf3⟩
  have hz1 := hf1.size
  have hz2 := hf2.size
  have hz3 := hf3.size
  have hT3 : DrT base g a c zs w n u xs v ys w3 := ⟨hxl, hyl, hxb, hyb, ⟨_, _, hxr.frm hf3 (fun b h1 h2 => by omega), hyr, fun b h1 h2 => by omega, fun b e => by omega, fun b e => by omega⟩, hs3, ((hf1.trans hf2).trans hf3).mono fun b _ e => .inl e⟩
  have hn : 8 ≤ n ∧ n ≤ 512 := ⟨hn8, hn5⟩
  have hbase : base ≤ w.heap.size := by have := hs.lo; omega
  clear hxl hyl hxb hyb hxr hyr hs hs1 hs2 hs3 hf1 hf2 hf3
  go_wp2_with fail
  refine (l1Next_any base g a c zs 5 (by decide) (by decide) _ hT3.src).mono ?_
  rintro e w4 ⟨way, rfl, hw0, hw5, hs4, hf4⟩
  have hT := hT3.drawn hg hs4 hf4
  clear hT3 hs4 hf4
  by_cases h0 : way = 0
  · subst h0
    obtain ⟨Sc, Sm, r1, r2, r3, r4, r5⟩ := hT.rows
    have hfA : Frm (fun b => w4.heap.size ≤ b) w4 (w4.alloc (.cells #[] 2)) := Frm.of_below ((Below.refl _ _).alloc (Nat.le_refl _) _)
    have hrA : RowS (fun b => w4.heap.size ≤ b) (w4.alloc (.cells #[] 2)) (.slice (some ⟨w4.heap.size, 0, none⟩) 0 0) [] := ⟨World.ownsRow_lit (e := 2) (size := 1) w4 #[] 0 (Nat.zero_le _) (by decide) rfl, fun b e => by simp [Value.ownBlock] at e; omega⟩
    have hz4 := hT.frm.size
    go_wp2
    go_loopw [6, 8] (fun v2 i wr => ∃ (k : Nat) (zs2 : List Int), k ≤ n ∧ i = .int .i64 k ∧ zs2.length = k ∧ (∀ i, 0 ≤ zs2.getD i 0 ∧ zs2.getD i 0 ≤ 65535) ∧ RowS (fun b => w4.heap.size ≤ b) wr v2 zs2 ∧ Frm (fun b => w4.heap.size ≤ b) w4 wr) (fun _ i _ => n - (intOf i).toNat)
    case atStart => exact ⟨0, [], Nat.zero_le _, rfl, rfl, fun i => by simp, hrA, hfA⟩
    case round =>
      obtain ⟨k, zs2, hk, rfl, hzl, hzb, hR, hF⟩ := hrel
      have hSz := hF.size
      clear hfA hrA
      by_cases hlt : k < n
      · have hi : (k : Int) < (n : Int) := by omega
        have hzl2 : zs2.length < 8589934592 := by omega
        go_wp2_with (first | (at_builtin; refine wpList_appendS rfl _ _ rfl _ hR rfl rfl hzl2 (fun b e => by omega) ?_; intro v3 w5 hR5 hF5) | go_in)
        go_roundw
        case rel => exact ⟨k + 1, zs2 ++ [0], by omega, by go_num, by simp [hzl], bnd_snoc hzb (by omega), hR5, hF.trans hF5⟩
        case measure => simp [intOf]; omega
      · have hi : ¬ (k : Int) < (n : Int) := by omega
        have hT5 : DrT base g a c zs w n u xs _ zs2 wr := ⟨hT.xl, by omega, hT.xb, hzb, ⟨Sc, fun b => w4.heap.size ≤ b ∧ b < wr.heap.size, r1.frm hF (fun b e1 e2 => by have := (r4 b e1).2; omega), hR.mono (fun b h1 h2 => ⟨h2, h1⟩), fun b e1 e2 => by have := (r4 b e1).2; omega, fun b e => ⟨(r4 b e).1, by have := (r4 b e).2; omega⟩, fun b e => by omega⟩, hT.src.frm hF (by have := hT.src.lt; omega) (fun b e => by omega), hT.frm.trans (hF.mono fun b _ e => .inr (by omega))⟩
        clear hT r1 r2 r3 r4 r5 hR hF hzb
        go_wp2_with fail
        refine (l1Next_any base g a c zs 8 (by decide) (by decide) _ hT5.src).mono ?_
        rintro e w6 ⟨p, rfl, hp0, hp1, hs6, hf6⟩
        have hT6 := hT5.drawn hg hs6 hf6
        clear hT5 hs6 hf6
        by_cases hp : p = 0
        · subst hp
          go_wp2_with fail
          refine (hT6.spoil1 hg hn).mono ?_
          rintro e w7 ⟨u7, x7, rfl, e1, e2, e3, e4⟩
          have hyl := hT6.yl
          clear hT6
          go_wp2
          exact bodyPost_ret (v := .tuple #[u7, _]) (by simp [results, Tryd.results15, go_sem]) rfl ⟨_, _, x7, _, rfl, e1, by omega, e2, e3, e4⟩
        · have hp' : (p == 0) = false := by simpa using hp
          go_wp2_with fail
          refine (l1Next_any base g a c zs 8 (by decide) (by decide) _ hT6.src).mono ?_
          rintro e w7 ⟨q, rfl, hq0, hq1, hs7, hf7⟩
          have hT7 := hT6.drawn hg hs7 hf7
          clear hT6 hs7 hf7
          by_cases hq : q = 0
          · subst hq
            go_wp2_with fail
            refine (hT7.spoil2 hg hn).mono ?_
            rintro e w8 ⟨v8, y8, rfl, e1, e2, e3, e4⟩
            have hxl := hT7.xl
            clear hT7
            go_wp2
            exact bodyPost_ret (v := .tuple #[_, v8]) (by simp [results, Tryd.results15, go_sem]) rfl ⟨_, _, _, y8, rfl, by omega, e1, e2, e3, e4⟩
          · have hq' : (q == 0) = false := by simpa using hq
            have hxl := hT7.xl
            have hyl := hT7.yl
            obtain ⟨e2, e3⟩ := hT7.both
            have e4 := hT7.frm
            clear hT7
            go_wp2
            exact bodyPost_ret (v := .tuple #[_, _]) (by simp [results, Tryd.results15, go_sem]) rfl ⟨_, _, _, _, rfl, by omega, by omega, e2, e3, e4⟩
  · have h0' : (way == 0) = false := by simpa using h0
    by_cases h1 : way = 1
    · subst h1
      obtain ⟨Sc, Sm, r1, r2, r3, r4, r5⟩ := hT.rows
      have hfA : Frm (fun b => w4.heap.size ≤ b) w4 (w4.alloc (.cells #[] 2)) := Frm.of_below ((Below.refl _ _).alloc (Nat.le_refl _) _)
      have hrA : RowS (fun b => w4.heap.size ≤ b) (w4.alloc (.cells #[] 2)) (.slice (some ⟨w4.heap.size, 0, none⟩) 0 0) [] := ⟨World.ownsRow_lit (e := 2) (size := 1) w4 #[] 0 (Nat.zero_le _) (by decide) rfl, fun b e => by simp [Value.ownBlock] at e; omega⟩
      have hz4 := hT.frm.size
      obtain ⟨b0, cap0, rfl, -, hSb, hbw, hcell, -⟩ := r1.set (by rw [hT.xl]; omega)
      rw [hT.xl] at *
      go_wp2
      go_loopw [6, 9] (fun v2 i wr => ∃ (k : Nat) (zs2 : List Int), k ≤ n ∧ i = .int .i64 k ∧ zs2.length = k ∧ (∀ i, 0 ≤ zs2.getD i 0 ∧ zs2.getD i 0 ≤ 65535) ∧ RowS (fun b => w4.heap.size ≤ b) wr v2 zs2 ∧ Frm (fun b => w4.heap.size ≤ b) w4 wr) (fun _ i _ => n - (intOf i).toNat)
      case atStart => exact ⟨0, [], Nat.zero_le _, rfl, rfl, fun i => by simp, hrA, hfA⟩
      case round =>
        obtain ⟨k, zs2, hk, rfl, hzl, hzb, hR, hF⟩ := hrel
        have hSz := hF.size
        clear hfA hrA
        by_cases hlt : k < n
        · have hi : (k : Int) < (n : Int) := by omega
          have hzl2 : zs2.length < 8589934592 := by omega
          have g1 : wr.cell? ⟨b0, k, none⟩ = some (.int .i64 (xs.getD k 0)) := (World.cell?_of_block (hF.block b0 hbw (by omega))).trans (hcell k hlt).1
          have hxk := hT.xb k
          generalize xs.getD k 0 = xk at g1 hxk
          go_wp2_with (first | (at_builtin; refine wpList_appendS rfl _ _ rfl _ hR rfl rfl hzl2 (fun b e => by omega) ?_; intro v3 w5 hR5 hF5) | go_in)
          go_roundw
          case rel => exact ⟨k + 1, zs2 ++ [xk], by omega, by go_num, by simp [hzl], bnd_snoc hzb hxk, hR5, hF.trans hF5⟩
          case measure => simp [intOf]; omega
        · have hi : ¬ (k : Int) < (n : Int) := by omega
          have hT5 : DrT base g a c zs w n (.slice (some ⟨b0, 0, none⟩) n cap0) xs _ zs2 wr := ⟨hT.xl, by omega, hT.xb, hzb, ⟨Sc, fun b => w4.heap.size ≤ b ∧ b < wr.heap.size, r1.frm hF (fun b e1 e2 => by have := (r4 b e1).2; omega), hR.mono (fun b h1 h2 => ⟨h2, h1⟩), fun b e1 e2 => by have := (r4 b e1).2; omega, fun b e => ⟨(r4 b e).1, by have := (r4 b e).2; omega⟩, fun b e => by omega⟩, hT.src.frm hF (by have := hT.src.lt; omega) (fun b e => by omega), hT.frm.trans (hF.mono fun b _ e => .inr (by omega))⟩
          clear hT r1 r2 r3 r4 r5 hR hF hzb hcell
          go_wp2_with fail
          refine (l1Next_any base g a c zs 8 (by decide) (by decide) _ hT5.src).mono ?_
          rintro e w6 ⟨p, rfl, hp0, hp1, hs6, hf6⟩
          have hT6 := hT5.drawn hg hs6 hf6
          clear hT5 hs6 hf6
          by_cases hp : p = 0
          · subst hp
            go_wp2_with fail
            refine (hT6.spoil1 hg hn).mono ?_
            rintro e w7 ⟨u7, x7, rfl, e1, e2, e3, e4⟩
            have hyl := hT6.yl
            clear hT6
            go_wp2
            exact bodyPost_ret (v := .tuple #[u7, _]) (by simp [results, Tryd.results15, go_sem]) rfl ⟨_, _, x7, _, rfl, e1, by omega, e2, e3, e4⟩
          · have hp' : (p == 0) = false := by simpa using hp
            go_wp2_with fail
            refine (l1Next_any base g a c zs 8 (by decide) (by decide) _ hT6.src).mono ?_
            rintro e w7 ⟨q, rfl, hq0, hq1, hs7, hf7⟩
            have hT7 := hT6.drawn hg hs7 hf7
            clear hT6 hs7 hf7
            by_cases hq : q = 0
            · subst hq
              go_wp2_with fail
              refine (hT7.spoil2 hg hn).mono ?_
              rintro e w8 ⟨v8, y8, rfl, e1, e2, e3, e4⟩
              have hxl := hT7.xl
              clear hT7
              go_wp2
              exact bodyPost_ret (v := .tuple #[_, v8]) (by simp [results, Tryd.results15, go_sem]) rfl ⟨_, _, _, y8, rfl, by omega, e1, e2, e3, e4⟩
            · have hq' : (q == 0) = false := by simpa using hq
              have hxl := hT7.xl
              have hyl := hT7.yl
              obtain ⟨e2, e3⟩ := hT7.both
              have e4 := hT7.frm
              clear hT7
              go_wp2
              exact bodyPost_ret (v := .tuple #[_, _]) (by simp [results, Tryd.results15, go_sem]) rfl ⟨_, _, _, _, rfl, by omega, by omega, e2, e3, e4⟩
    · have h1' : (way == 1) = false := by simpa using h1
      by_cases h2 : way = 2
      · subst h2
        go_wp2
        go_loopw [10] (fun i wr => ∃ (k : Nat) (xs2 : List Int), 2 ≤ k ∧ k ≤ n ∧ i = .int .i64 k ∧ DrT base g a c zs w n u xs2 v ys wr) (fun i _ => n - (intOf i).toNat)
        case atStart => exact ⟨2, xs, by omega, by omega, rfl, hT⟩
        case round =>
          obtain ⟨k, xs2, hk2, hk, rfl, hT2⟩ := hrel
          clear hT
          by_cases hlt : k < n
          · have hi : (k : Int) < (n : Int) := by omega
            go_wp2_with fail
            refine (l1Next_any base g a c zs 12 (by decide) (by decide) _ hT2.src).mono ?_
            rintro e w5 ⟨p, rfl, hp0, hp1, hs5, hf5⟩
            have hT5 := hT2.drawn hg hs5 hf5
            clear hT2 hs5 hf5
            by_cases hp : 0 < p
            · go_wp2_with fail
              refine (l1Next_any base g a c zs 2 (by decide) (by decide) _ hT5.src).mono ?_
              rintro e w6 ⟨y, rfl, hy0, hy1, hs6, hf6⟩
              have hT6 := hT5.drawn hg hs6 hf6
              clear hT5 hs6 hf6
              obtain ⟨Sc, Sm, r1, r2, r3, r4, r5⟩ := hT6.rows
              obtain ⟨b0, cap0, rfl, -, hSb, hbw, hcell, hset⟩ := r1.set (by rw [hT6.xl]; omega)
              have hkl : k < xs2.length := by rw [hT6.xl]; exact hlt
              have hi2 : (k : Int) < (xs2.length : Int) := by omega
              obtain ⟨c1, c2⟩ := hcell k hkl
              obtain ⟨s1, s2⟩ := hset k (1 + y) hkl
              have hT7 : DrT base g a c zs w n (.slice (some ⟨b0, 0, none⟩) xs2.length cap0) (xs2.set k (1 + y)) v ys (w6.setCell ⟨b0, k, none⟩ (.int .i64 (1 + y))) := ⟨by simp [hT6.xl], hT6.yl, fun i => by
                  have hb := hT6.xb i
                  simp only [List.getD_eq_getElem?_getD, List.getElem?_set] at hb ⊢
                  by_cases e : k = i
                  · subst e; rw [if_pos rfl, if_pos hkl]; simp; omega
                  · rw [if_neg e]; exact hb, hT6.yb, ⟨Sc, Sm, s1, r2.frm s2 (fun b e1 e2 => r3 b e2 e1), r3, fun b e => ⟨(r4 b e).1, Nat.lt_of_lt_of_le (r4 b e).2 s2.size⟩, fun b e => ⟨(r5 b e).1, Nat.lt_of_lt_of_le (r5 b e).2 s2.size⟩⟩, hT6.src.frm s2 (fun e => by have := (r4 g e).1; omega) (fun b e => by have := (r4 b e).1; omega), hT6.frm.trans (s2.mono fun b _ e => .inr (r4 b e).1)⟩
              generalize xs2.getD k 0 = ov at c1
              clear hcell hset r1 r2 r3 r4 r5 hT6 s1 s2
              go_wp2
              go_roundw
              case rel => exact ⟨k + 1, _, by omega, by omega, by go_num, hT7⟩
              case measure => simp [intOf]; omega
            · go_wp2
              go_roundw
              case rel => exact ⟨k + 1, xs2, by omega, by omega, by go_num, hT5⟩
              case measure => simp [intOf]; omega
          · have hi : ¬ (k : Int) < (n : Int) := by omega
            go_wp2_with fail
            refine (l1Next_any base g a c zs 8 (by decide) (by decide) _ hT2.src).mono ?_
            rintro e w6 ⟨p, rfl, hp0, hp1, hs6, hf6⟩
            have hT6 := hT2.drawn hg hs6 hf6
            clear hT2 hs6 hf6
            by_cases hp : p = 0
            · subst hp
              go_wp2_with fail
              refine (hT6.spoil1 hg hn).mono ?_
              rintro e w7 ⟨u7, x7, rfl, e1, e2, e3, e4⟩
              have hyl := hT6.yl
              clear hT6
              go_wp2
              exact bodyPost_ret (v := .tuple #[u7, _]) (by simp [results, Tryd.results15, go_sem]) rfl ⟨_, _, x7, _, rfl, e1, by omega, e2, e3, e4⟩
            · have hp' : (p == 0) = false := by simpa using hp
              go_wp2_with fail
              refine (l1Next_any base g a c zs 8 (by decide) (by decide) _ hT6.src).mono ?_
              rintro e w7 ⟨q, rfl, hq0, hq1, hs7, hf7⟩
              have hT7 := hT6.drawn hg hs7 hf7
              clear hT6 hs7 hf7
              by_cases hq : q = 0
              · subst hq
                go_wp2_with fail
                refine (hT7.spoil2 hg hn).mono ?_
                rintro e w8 ⟨v8, y8, rfl, e1, e2, e3, e4⟩
                have hxl := hT7.xl
                clear hT7
                go_wp2
                exact bodyPost_ret (v := .tuple #[_, v8]) (by simp [results, Tryd.results15, go_sem]) rfl ⟨_, _, _, y8, rfl, by omega, e1, e2, e3, e4⟩
              · have hq' : (q == 0) = false := by simpa using hq
                have hxl := hT7.xl
                have hyl := hT7.yl
                obtain ⟨e2, e3⟩ := hT7.both
                have e4 := hT7.frm
                clear hT7
                go_wp2
                exact bodyPost_ret (v := .tuple #[_, _]) (by simp [results, Tryd.results15, go_sem]) rfl ⟨_, _, _, _, rfl, by omega, by omega, e2, e3, e4⟩
      · have h2' : (way == 2) = false := by simpa using h2
        go_wp2_with fail
        refine (l1Next_any base g a c zs 8 (by decide) (by decide) _ hT.src).mono ?_
        rintro e w6 ⟨p, rfl, hp0, hp1, hs6, hf6⟩
        have hT6 := hT.drawn hg hs6 hf6
        clear hT hs6 hf6
        by_cases hp : p = 0
        · subst hp
          go_wp2_with fail
          refine (hT6.spoil1 hg hn).mono ?_
          rintro e w7 ⟨u7, x7, rfl, e1, e2, e3, e4⟩
          have hyl := hT6.yl
          clear hT6
          go_wp2
          exact bodyPost_ret (v := .tuple #[u7, _]) (by simp [results, Tryd.results15, go_sem]) rfl ⟨_, _, x7, _, rfl, e1, by omega, e2, e3, e4⟩
        · have hp' : (p == 0) = false := by simpa using hp
          go_wp2_with fail
          refine (l1Next_any base g a c zs 8 (by decide) (by decide) _ hT6.src).mono ?_
          rintro e w7 ⟨q, rfl, hq0, hq1, hs7, hf7⟩
          have hT7 := hT6.drawn hg hs7 hf7
          clear hT6 hs7 hf7
          by_cases hq : q = 0
          · subst hq
            go_wp2_with fail
            refine (hT7.spoil2 hg hn).mono ?_
            rintro e w8 ⟨v8, y8, rfl, e1, e2, e3, e4⟩
            have hxl := hT7.xl
            clear hT7
            go_wp2
            exact bodyPost_ret (v := .tuple #[_, v8]) (by simp [results, Tryd.results15, go_sem]) rfl ⟨_, _, _, y8, rfl, by omega, e1, e2, e3, e4⟩
          · have hq' : (q == 0) = false := by simpa using hq
            have hxl := hT7.xl
            have hyl := hT7.yl
            obtain ⟨e2, e3⟩ := hT7.both
            have e4 := hT7.frm
            clear hT7
            go_wp2
            exact bodyPost_ret (v := .tuple #[_, _]) (by simp [results, Tryd.results15, go_sem]) rfl ⟨_, _, _, _, rfl, by omega, by omega, e2, e3, e4⟩
end Go.Proofs.YtamblkibmlfklabDoor
