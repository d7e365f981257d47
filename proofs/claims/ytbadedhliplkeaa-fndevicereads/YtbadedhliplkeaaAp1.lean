import Derived.Test.YtbadedhliplkeaaSt4
namespace Go.Proofs.Ytbadedhliplkeaa
open Go.RowKit
set_option linter.unusedVariables false

theorem POff.of_S {S T : Nat → Prop} {w : World} {v : Value} {ps : List (Int × List Int)} (h : POwnS S w v ps) (hS : ∀ k, S k → ¬ T k) : POff T w v ps := by
  obtain ⟨a, cap, hv, hc⟩ := h
  refine ⟨a, cap, hv, fun hp => ?_⟩
  obtain ⟨b, off, ha, h1, h3, g, hg, hj⟩ := hc hp
  refine ⟨b, off, ha, hS b h1, fun i hi => ?_⟩
  obtain ⟨g1, g3, g4, da, dc, e1, e2, e3, e4⟩ := hg i hi
  refine ⟨da, dc, e1, e2, e4.bts, fun hpp => ?_⟩
  obtain ⟨a', c', hv', hx⟩ := e4.shape
  obtain ⟨b', off', ha', k1, k2, _⟩ := hx hpp
  simp only [Value.slice.injEq] at hv'
  rw [hv'.1, ha']
  obtain rfl : b' = g i := by omega
  exact ⟨_, _, _, rfl, hS _ g1⟩

/-- the code of a step, and what it leaves -/
def stC (B : Int) (n : Nat) (s : Int × Int × List Int) : Int := if s.1 = 1 then wC B n s.2.1 s.2.2.length else if s.1 = 2 then 0 else 5
def stZ (zs : List Int) (ps : List (Int × List Int)) (s : Int × Int × List Int) : List Int := if s.1 = 2 then settle zs ps else zs
def stP (B : Int) (ps : List (Int × List Int)) (s : Int × Int × List Int) : List (Int × List Int) := if s.1 = 1 then wP B ps s.2.1 s.2.2 else if s.1 = 2 then [] else ps

/-- a step at the device in box p, its disk in block g, its cache in blocks of S -/
structure Stt (S : Nat → Prop) (w : World) (p g : Nat) (B : Int) (u c : Value) (zs : List Int) (ps : List (Int × List Int)) : Prop where
  box : Box3 w p (.int .i64 B) u c 25
  disk : RowAt w g u zs
  cache : PRow S w c ps
  hp : ¬ S p
  hg : ¬ S g
  hpg : p ≠ g
  new : ∀ k, w.heap.size ≤ k → S k
  fits : Fits zs.length ps

theorem Stt.below {S : Nat → Prop} {w w' : World} {p g : Nat} {B : Int} {u c : Value} {zs : List Int} {ps : List (Int × List Int)} (h : Stt S w p g B u c zs ps) (k : Below w.heap.size w w') : Stt S w' p g B u c zs ps :=
  ⟨h.box.below k, h.disk.below k, h.cache.below k, h.hp, h.hg, h.hpg, fun q hq => h.new q (Nat.le_trans k.size hq), h.fits⟩

theorem fits_snoc {n : Nat} {ps : List (Int × List Int)} {B q : Int} {ds : List Int} (h : Fits n ps) (hB : (n : Int) = B * 128) (hq : inB q 0 (B - 1) = true) (hd : ds.length = 128) : Fits n (ps ++ [(q, ds)]) := fun i hi => by
  have hq' := of_decide_eq_true hq
  by_cases h1 : i < ps.length
  · rw [getD_snoc_lt _ _ _ h1]; exact h i h1
  · have h2 : i = ps.length := by simp at hi; omega
    subst h2
    rw [getD_snoc]
    refine ⟨hq'.1, ?_, hd⟩
    show (q.toNat + 1) * 128 ≤ n
    omega

set_option maxRecDepth 100000 in
set_option maxHeartbeats 2000000 in
theorem apply_any (S : Nat → Prop) (p g : Nat) (B : Int) (u c : Value) (zs : List Int) (ps : List (Int × List Int)) (kd q : Int) (ea : Option Addr) (ec : Nat) (ds : List Int) (w : World) (h : Stt S w p g B u c zs ps) (hB1 : 1 ≤ B) (hB2 : B ≤ 512) (hzB : (zs.length : Int) = B * 128) (hpl : ps.length ≤ 1048576) (hd : ds.length ≤ 1048576) (hv : Bts w (.slice ea ds.length ec) ds) :
    Calls Try.prog 51 #[.pointer (some ⟨p, 0, none⟩), .agg #[.int .i64 kd, .int .i64 q, .slice ea ds.length ec]] w fun e w' => ∃ c', e = .returned (.int .i64 (stC B ps.length (kd, q, ds))) ∧ Stt S w' p g B u c' (stZ zs ps (kd, q, ds)) (stP B ps (kd, q, ds)) ∧ Frm (fun k => S k ∨ k = p ∨ k = g) w w' := by
  have hbA := belowA w (.cells #[.int .i64 kd, .int .i64 q, .slice ea ds.length ec] 46)
  have hA := h.below hbA
  have hvA := hv.below hbA
  have hFA : Frm (fun k => S k ∨ k = p ∨ k = g) w _ := Frm.of_below hbA
  by_cases h1 : kd = 1
  · subst h1
    simp only [stC, stZ, stP, if_true, if_false, show ¬ ((1 : Int) = 2) by decide]
    go_enter Try.func51, Try.ntmps51
    go_wp2_with fail
    refine (write_any S p B q u c ea ec ds ps _ hA.box hA.cache hA.hp hA.new hB1 hB2 hd hpl hvA).mono ?_
    rintro e w1 ⟨c', rfl, hP1, hR1, hF1⟩
    have hS1 : Stt S w1 p g B u c' zs (wP B ps q ds) := by
      refine ⟨hP1, hA.disk.block (hF1.block g hA.disk.lt ?_), hR1, h.hp, h.hg, h.hpg, fun k hk => hA.new k (Nat.le_trans hF1.size hk), ?_⟩
      · rintro (e | e)
        · exact h.hg e
        · exact h.hpg e.symm
      · unfold wP
        split
        · rename_i hw
          obtain ⟨w1, w2, _⟩ := wC_yes.1 hw
          exact fits_snoc h.fits hzB w1 w2
        · exact h.fits
    have hF2 : Frm (fun k => S k ∨ k = p ∨ k = g) w w1 := hFA.trans (hF1.wider (fun k hk => by rcases hk with e | e; exact .inl e; exact .inr (.inl e)))
    clear hP1 hR1 hF1 hFA hvA hA hbA
    go_wp2
    go_ret
    exact ⟨c', rfl, hS1, hF2⟩
  · by_cases h2 : kd = 2
    · subst h2
      simp only [stC, stZ, stP, if_true, if_neg h1]
      obtain ⟨ca, cc, hc⟩ := hA.cache.form
      subst hc
      have hzl : zs.length ≤ 1048576 := by omega
      have hlen := settle_length zs ps h.fits ps.length (Nat.le_refl _)
      rw [List.take_length] at hlen
      go_enter Try.func51, Try.ntmps51
      go_wp2_with fail
      refine (flush_any p g B u ca cc zs ps _ hA.box hA.disk (POff.of_S hA.cache.own (fun k hk e => by rcases e with rfl | rfl; exact h.hg hk; exact h.hp hk)) h.hpg hzl hpl h.fits).mono ?_
      rintro e w1 ⟨rfl, hP1, hu1, hF1⟩
      have hS1 : Stt S w1 p g B u (.slice none 0 0) (settle zs ps) [] := ⟨hP1, hu1, PRow.nil _ _, h.hp, h.hg, h.hpg, fun k hk => hA.new k (Nat.le_trans hF1.size hk), fun i hi => by simp at hi⟩
      have hF2 : Frm (fun k => S k ∨ k = p ∨ k = g) w w1 := hFA.trans (hF1.wider (fun k hk => by rcases hk with e | e; exact .inr (.inr e); exact .inr (.inl e)))
      clear hP1 hu1 hF1 hFA hvA hA hbA hlen
      go_wp2
      go_ret
      exact ⟨_, rfl, hS1, hF2⟩
    · simp only [stC, stZ, stP, if_neg h1, if_neg h2]
      go_enter Try.func51, Try.ntmps51
      go_wp2
      go_ret
      exact ⟨c, rfl, hA, hFA⟩
end Go.Proofs.Ytbadedhliplkeaa
