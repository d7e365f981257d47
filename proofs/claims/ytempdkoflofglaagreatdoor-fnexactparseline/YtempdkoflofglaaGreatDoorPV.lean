import Derived.Test.YtempdkoflofglaaGreatDoorPM
import Derived.MapKept
import Derived.WideMake
namespace Go.Proofs.YtempdkoflofglaaGreatDoor
open Go.RowKit
set_option linter.unusedVariables false

theorem ba_beq (a b : ByteArray) : (a == b) = decide (a = b) := by
  cases a with
  | mk x =>
    cases b with
    | mk y =>
      show (x == y) = _
      by_cases h : x = y
      · subst h; simp
      · have h2 : ¬ (ByteArray.mk x = ByteArray.mk y) := fun e => h (ByteArray.mk.inj e)
        rw [decide_eq_false h2]
        simpa using h

theorem belowA (w : World) (o : Obj) : Below w.heap.size w (w.alloc o) := (Below.refl _ _).alloc (Nat.le_refl _) _

/-- a list of kinds, in a block of its own other than b -/
def KRd (w : World) (b : Nat) (v : Value) (ks : List Int) : Prop :=
  ∃ a, v = .slice a ks.length ks.length ∧ (0 < ks.length → ∃ g, a = some ⟨g, 0, none⟩ ∧ g ≠ b ∧ g < w.heap.size ∧ ∀ i, i < ks.length → w.cell? ⟨g, i, none⟩ = some (.int .i64 (ks.getD i 0)))

theorem KRd.kept {w w' : World} {b : Nat} {v : Value} {ks : List Int} (h : KRd w b v ks) (hs : w.heap.size ≤ w'.heap.size) (k : ∀ g, g < w.heap.size → g ≠ b → w'.heap[g]? = w.heap[g]?) : KRd w' b v ks := by
  obtain ⟨a, hv, hc⟩ := h
  refine ⟨a, hv, fun hp => ?_⟩
  obtain ⟨g, ha, h1, h2, hcell⟩ := hc hp
  exact ⟨g, ha, h1, by omega, fun i hi => (World.cell?_of_block (a := ⟨g, i, none⟩) (k g h2 h1)).trans (hcell i hi)⟩

theorem KRd.made (w : World) (b : Nat) (ks : List Int) (n : Nat) (hn : ks.length = n) (cs : Array Value) (hc : cs = (ks.map (Value.int .i64)).toArray) (hb : w.heap.size ≠ b) (g : Nat) (hg : g = w.heap.size) : KRd (w.alloc (.cells cs 53)) b (.slice (some ⟨g, 0, none⟩) n n) ks := by
  subst hn hc hg
  refine ⟨_, rfl, fun _ => ⟨_, rfl, hb, by simp, fun i hi => ?_⟩⟩
  rw [World.cell?_alloc_at _ _ _ _ rfl]
  simp [hi]

theorem KRd.none (w : World) (b : Nat) : KRd w b (.slice Option.none 0 0) [] := ⟨Option.none, rfl, fun h => by simp at h⟩

/-- entries of the map, against a table -/
def Ents (w : World) (b : Nat) : List MapEntry → List (ByteArray × Int × List Int) → Prop
  | [], [] => True
  | e :: r, t :: u => (e.key = .string t.1 ∧ ∃ sl f x y, e.val = .agg #[.int .i64 t.2.1, sl, .func f x y] ∧ KRd w b sl t.2.2) ∧ Ents w b r u
  | _, _ => False

theorem Ents.kept {w w' : World} {b : Nat} (hs : w.heap.size ≤ w'.heap.size) (k : ∀ g, g < w.heap.size → g ≠ b → w'.heap[g]? = w.heap[g]?) : ∀ {es : List MapEntry} {tb : List (ByteArray × Int × List Int)}, Ents w b es tb → Ents w' b es tb
  | [], [], _ => trivial
  | e :: r, t :: u, h => by
    obtain ⟨⟨h1, sl, f, x, y, h2, h3⟩, h4⟩ := h
    exact ⟨⟨h1, sl, f, x, y, h2, h3.kept hs k⟩, Ents.kept hs k h4⟩
  | [], _ :: _, h => h.elim
  | _ :: _, [], h => h.elim

theorem Ents.snoc {w : World} {b : Nat} {e : MapEntry} {t : ByteArray × Int × List Int} (he : e.key = .string t.1 ∧ ∃ sl f x y, e.val = .agg #[.int .i64 t.2.1, sl, .func f x y] ∧ KRd w b sl t.2.2) : ∀ {es : List MapEntry} {tb : List (ByteArray × Int × List Int)}, Ents w b es tb → Ents w b (es ++ [e]) (tb ++ [t])
  | [], [], _ => ⟨he, trivial⟩
  | _ :: _, _ :: _, h => ⟨h.1, Ents.snoc he h.2⟩
  | [], _ :: _, h => h.elim
  | _ :: _, [], h => h.elim

theorem Ents.find_none {w : World} {b : Nat} {s : ByteArray} : ∀ {es : List MapEntry} {tb : List (ByteArray × Int × List Int)} (i : Nat), Ents w b es tb → (∀ t ∈ tb, t.1 ≠ s) → Instr.findNow .string (.string s) es i = some none
  | [], [], _, _, _ => rfl
  | e :: r, t :: u, i, h, hn => by
    have hne : (s == t.1) = false := by rw [ba_beq]; exact decide_eq_false fun e1 => hn t (by simp) e1.symm
    unfold Instr.findNow
    rw [h.1.1]
    simp only [Instr.sameNow, hne]
    exact Ents.find_none (i + 1) h.2 fun t ht => hn t (by simp [ht])
  | [], _ :: _, _, h, _ => h.elim
  | _ :: _, [], _, h, _ => h.elim

theorem Ents.find_some {w : World} {b : Nat} {s : ByteArray} {t : ByteArray × Int × List Int} : ∀ {es : List MapEntry} {tb : List (ByteArray × Int × List Int)} (i : Nat), Ents w b es tb → tb.find? (fun t => decide (t.1 = s)) = some t → ∃ j sl f x y, Instr.findNow .string (.string s) es i = some (some (j, .agg #[.int .i64 t.2.1, sl, .func f x y])) ∧ KRd w b sl t.2.2
  | [], [], _, _, hf => by simp at hf
  | e :: r, t' :: u, i, h, hf => by
    unfold Instr.findNow
    rw [h.1.1]
    by_cases hs : t'.1 = s
    · have : t' = t := by simpa [List.find?_cons, hs] using hf
      subst this
      obtain ⟨_, sl, f, x, y, hv, hk⟩ := h.1
      have hss : (s == s) = true := by rw [ba_beq]; simp
      refine ⟨i, sl, f, x, y, ?_, hk⟩
      simp [Instr.sameNow, hs, hv, hss]
    · have hne : (s == t'.1) = false := by rw [ba_beq]; exact decide_eq_false fun e1 => hs e1.symm
      simp only [Instr.sameNow, hne]
      exact Ents.find_some (i + 1) h.2 (by simpa [List.find?_cons, hs] using hf)
  | [], _ :: _, _, h, _ => h.elim
  | _ :: _, [], _, h, _ => h.elim

/-- block b holds the map of a table -/
def VMap (w : World) (b : Nat) (tb : List (ByteArray × Int × List Int)) : Prop := ∃ es clock, w.heap[b]? = some (.map es clock) ∧ Ents w b es.toList tb

theorem VMap.lt {w : World} {b : Nat} {tb : List (ByteArray × Int × List Int)} (h : VMap w b tb) : b < w.heap.size := by
  obtain ⟨es, c, hb, _⟩ := h
  exact (Array.getElem?_eq_some_iff.1 hb).1

theorem VMap.below {w w' : World} {b : Nat} {tb : List (ByteArray × Int × List Int)} (h : VMap w b tb) (k : Below w.heap.size w w') : VMap w' b tb := by
  have hl := h.lt
  obtain ⟨es, c, hb, he⟩ := h
  exact ⟨es, c, (k.block b hl).trans hb, he.kept k.size fun g hg _ => k.block g hg⟩

/-- one more word -/
theorem VMap.ins {w : World} {b : Nat} {tb : List (ByteArray × Int × List Int)} (h : VMap w b tb) (s : ByteArray) (op : Int) (ks : List Int) (sl : Value) (f : Fn) (x y : Array Value) (hn : ∀ t ∈ tb, t.1 ≠ s) (hk : KRd w b sl ks) :
    ∃ w', (Instr.mapUpdate 40 (.map (some b)) (.string s) (.agg #[.int .i64 op, sl, .func f x y])).run Tryz.prog w = .ok () w' ∧ VMap w' b (tb ++ [(s, op, ks)]) ∧ Upd b (b + 1) w w' := by
  have hl := h.lt
  obtain ⟨es, c, hb, he⟩ := h
  have hf := he.find_none (s := s) 0 hn
  have hc : (Instr.checkKey false 10000 9 (.string s)).run Tryz.prog w = .ok () w := MapKept.run_checkKey (k := .string s) Tryz.underlying9 (by simp [MapKept.IsKey]) false 9999
  have hu : Upd b (b + 1) w { w with heap := w.heap.setIfInBounds b (.map (es.push { key := .string s, val := .agg #[.int .i64 op, sl, .func f x y], born := c }) (c + 1)) } :=
    ⟨rfl, rfl, rfl, by simp, fun k _ hk => (MapKept.heap_set hb).2 k (by omega)⟩
  refine ⟨_, ?_, ⟨_, c + 1, (MapKept.heap_set hb).1, ?_⟩, hu⟩
  · simp [Instr.mapUpdate, run_underlying Tryz.underlying40, MapKept.run_getObj_map hb, hc, MapKept.run_findKey Tryz.underlying9 hf, MapKept.run_setObj_map _ hb, Result.andThen]
  · rw [Array.toList_push]
    exact Ents.snoc ⟨rfl, sl, f, x, y, rfl, hk.kept hu.size fun g hg hgb => hu.block g hg (by omega)⟩ (he.kept hu.size fun g hg hgb => hu.block g hg (by omega))

theorem VMap.made (w : World) : VMap (w.alloc (.map #[] 0)) w.heap.size [] := ⟨#[], 0, heap_alloc_new w _, trivial⟩

theorem VMap.look_yes {w : World} {b : Nat} {tb : List (ByteArray × Int × List Int)} (h : VMap w b tb) {s : ByteArray} {t : ByteArray × Int × List Int} (hf : tb.find? (fun t => decide (t.1 = s)) = some t) :
    ∃ sl f x y, (Instr.lookup 40 (.map (some b)) (.string s) true).run Tryz.prog w = .ok (.tuple #[.agg #[.int .i64 t.2.1, sl, .func f x y], .bool true]) w ∧ KRd w b sl t.2.2 := by
  obtain ⟨es, c, hb, he⟩ := h
  obtain ⟨j, sl, f, x, y, hff, hk⟩ := he.find_some 0 hf
  have hc : ∀ e, (Instr.checkKey e 10000 9 (.string s)).run Tryz.prog w = .ok () w := fun e => MapKept.run_checkKey (k := .string s) Tryz.underlying9 (by simp [MapKept.IsKey]) e 9999
  refine ⟨sl, f, x, y, ?_, hk⟩
  simp [Instr.lookup, run_underlying Tryz.underlying40, MapKept.run_getObj_map hb, hc, MapKept.run_findKey Tryz.underlying9 hff, Result.andThen]

theorem VMap.look_no {w : World} {b : Nat} {tb : List (ByteArray × Int × List Int)} (h : VMap w b tb) {s : ByteArray} (hn : ∀ t ∈ tb, t.1 ≠ s) :
    (Instr.lookup 40 (.map (some b)) (.string s) true).run Tryz.prog w = .ok (.tuple #[.agg #[.int .i64 0, .slice none 0 0, .nilFunc], .bool false]) w := by
  obtain ⟨es, c, hb, he⟩ := h
  have hff := he.find_none (s := s) 0 hn
  have hc : ∀ e, (Instr.checkKey e 10000 9 (.string s)).run Tryz.prog w = .ok () w := fun e => MapKept.run_checkKey (k := .string s) Tryz.underlying9 (by simp [MapKept.IsKey]) e 9999
  have hz : (zeroValue 37).run Tryz.prog w = .ok (.agg #[.int .i64 0, .slice none 0 0, .nilFunc]) w := by simp [Tryz.zeroValue37]
  simp [Instr.lookup, run_underlying Tryz.underlying40, MapKept.run_getObj_map hb, hc, MapKept.run_findKey Tryz.underlying9 hff, Result.andThen, hz]

/-- the words, their numbers and the kinds of their words -/
def TBL : List (ByteArray × Int × List Int) := [({ data := #[99, 114, 101, 97, 116, 101] }, 1, [0, 1]), ({ data := #[109, 107, 100, 105, 114] }, 2, [0, 1]), ({ data := #[119, 114, 105, 116, 101] }, 3, [0, 1, 3, 6]), ({ data := #[102, 105, 108, 108] }, 4, [0, 1, 3, 4, 5]), ({ data := #[114, 101, 97, 100] }, 5, [0, 1, 3, 4]), ({ data := #[108, 105, 115, 116] }, 6, [0, 1]), ({ data := #[117, 110, 108, 105, 110, 107] }, 7, [0, 1]), ({ data := #[114, 101, 110, 97, 109, 101] }, 8, [0, 1, 2]), ({ data := #[99, 108, 111, 110, 101] }, 9, [0]), ({ data := #[100, 114, 111, 112] }, 10, [0]), ({ data := #[115, 121, 110, 99] }, 11, []), ({ data := #[115, 112, 97, 99, 101] }, 12, []), ({ data := #[99, 114, 97, 115, 104] }, 13, [3, 7])]

set_option maxRecDepth 100000 in
set_option maxHeartbeats 8000000 in
theorem verbs_any (p : Value) (w : World) :
    Calls Tryz.prog 12 #[p] w fun e w' => ∃ b, e = .returned (.map (some b)) ∧ VMap w' b TBL ∧ Below w.heap.size w w' := by
  have hmm := @run_makeMap Tryz.prog
  have hV0 := VMap.made w
  have hB0 : Below w.heap.size w (w.alloc (.map #[] 0)) := (Below.refl _ _).alloc (Nat.le_refl _) _
  have hs0 : w.heap.size < (w.alloc (.map #[] 0)).heap.size := by simp
  have hA0 := belowA (w.alloc (.map #[] 0)) (.cells #[.int .i64 0, .int .i64 1] 53)
  have hK0 := KRd.made (w.alloc (.map #[] 0)) w.heap.size [0, 1] 2 rfl #[.int .i64 0, .int .i64 1] rfl (by omega) (w.heap.size + 1) (by simp)
  obtain ⟨W1, hr0, hV1, hU0⟩ := (hV0.below hA0).ins { data := #[99, 114, 101, 97, 116, 101] } 1 [0, 1] _ (Fn.func 16) #[p] #[] (by decide) hK0
  have hB1 : Below w.heap.size w W1 := (hB0.trans (hA0.mono hB0.size)).trans (hU0.below (Nat.le_refl _) (by have := hB0.size; simp; omega))
  have hs1 := hV1.lt
  have hA1 := belowA W1 (.cells #[.int .i64 0, .int .i64 1] 53)
  have hK1 := KRd.made W1 w.heap.size [0, 1] 2 rfl #[.int .i64 0, .int .i64 1] rfl (by omega) _ rfl
  obtain ⟨W2, hr1, hV2, hU1⟩ := (hV1.below hA1).ins { data := #[109, 107, 100, 105, 114] } 2 [0, 1] _ (Fn.func 17) #[p] #[] (by decide) hK1
  have hB2 : Below w.heap.size w W2 := (hB1.trans (hA1.mono hB1.size)).trans (hU1.below (Nat.le_refl _) (by have := hB1.size; simp; omega))
  have hs2 := hV2.lt
  have hA2 := belowA W2 (.cells #[.int .i64 0, .int .i64 1, .int .i64 3, .int .i64 6] 53)
  have hK2 := KRd.made W2 w.heap.size [0, 1, 3, 6] 4 rfl #[.int .i64 0, .int .i64 1, .int .i64 3, .int .i64 6] rfl (by omega) _ rfl
  obtain ⟨W3, hr2, hV3, hU2⟩ := (hV2.below hA2).ins { data := #[119, 114, 105, 116, 101] } 3 [0, 1, 3, 6] _ (Fn.func 18) #[p] #[] (by decide) hK2
  have hB3 : Below w.heap.size w W3 := (hB2.trans (hA2.mono hB2.size)).trans (hU2.below (Nat.le_refl _) (by have := hB2.size; simp; omega))
  have hs3 := hV3.lt
  have hA3 := belowA W3 (.cells #[.int .i64 0, .int .i64 1, .int .i64 3, .int .i64 4, .int .i64 5] 53)
  have hK3 := KRd.made W3 w.heap.size [0, 1, 3, 4, 5] 5 rfl #[.int .i64 0, .int .i64 1, .int .i64 3, .int .i64 4, .int .i64 5] rfl (by omega) _ rfl
  obtain ⟨W4, hr3, hV4, hU3⟩ := (hV3.below hA3).ins { data := #[102, 105, 108, 108] } 4 [0, 1, 3, 4, 5] _ (Fn.func 18) #[p] #[] (by decide) hK3
  have hB4 : Below w.heap.size w W4 := (hB3.trans (hA3.mono hB3.size)).trans (hU3.below (Nat.le_refl _) (by have := hB3.size; simp; omega))
  have hs4 := hV4.lt
  have hA4 := belowA W4 (.cells #[.int .i64 0, .int .i64 1, .int .i64 3, .int .i64 4] 53)
  have hK4 := KRd.made W4 w.heap.size [0, 1, 3, 4] 4 rfl #[.int .i64 0, .int .i64 1, .int .i64 3, .int .i64 4] rfl (by omega) _ rfl
  obtain ⟨W5, hr4, hV5, hU4⟩ := (hV4.below hA4).ins { data := #[114, 101, 97, 100] } 5 [0, 1, 3, 4] _ (Fn.func 19) #[p] #[] (by decide) hK4
  have hB5 : Below w.heap.size w W5 := (hB4.trans (hA4.mono hB4.size)).trans (hU4.below (Nat.le_refl _) (by have := hB4.size; simp; omega))
  have hs5 := hV5.lt
  have hA5 := belowA W5 (.cells #[.int .i64 0, .int .i64 1] 53)
  have hK5 := KRd.made W5 w.heap.size [0, 1] 2 rfl #[.int .i64 0, .int .i64 1] rfl (by omega) _ rfl
  obtain ⟨W6, hr5, hV6, hU5⟩ := (hV5.below hA5).ins { data := #[108, 105, 115, 116] } 6 [0, 1] _ (Fn.func 20) #[p] #[] (by decide) hK5
  have hB6 : Below w.heap.size w W6 := (hB5.trans (hA5.mono hB5.size)).trans (hU5.below (Nat.le_refl _) (by have := hB5.size; simp; omega))
  have hs6 := hV6.lt
  have hA6 := belowA W6 (.cells #[.int .i64 0, .int .i64 1] 53)
  have hK6 := KRd.made W6 w.heap.size [0, 1] 2 rfl #[.int .i64 0, .int .i64 1] rfl (by omega) _ rfl
  obtain ⟨W7, hr6, hV7, hU6⟩ := (hV6.below hA6).ins { data := #[117, 110, 108, 105, 110, 107] } 7 [0, 1] _ (Fn.func 21) #[p] #[] (by decide) hK6
  have hB7 : Below w.heap.size w W7 := (hB6.trans (hA6.mono hB6.size)).trans (hU6.below (Nat.le_refl _) (by have := hB6.size; simp; omega))
  have hs7 := hV7.lt
  have hA7 := belowA W7 (.cells #[.int .i64 0, .int .i64 1, .int .i64 2] 53)
  have hK7 := KRd.made W7 w.heap.size [0, 1, 2] 3 rfl #[.int .i64 0, .int .i64 1, .int .i64 2] rfl (by omega) _ rfl
  obtain ⟨W8, hr7, hV8, hU7⟩ := (hV7.below hA7).ins { data := #[114, 101, 110, 97, 109, 101] } 8 [0, 1, 2] _ (Fn.func 22) #[p] #[] (by decide) hK7
  have hB8 : Below w.heap.size w W8 := (hB7.trans (hA7.mono hB7.size)).trans (hU7.below (Nat.le_refl _) (by have := hB7.size; simp; omega))
  have hs8 := hV8.lt
  have hA8 := belowA W8 (.cells #[.int .i64 0] 53)
  have hK8 := KRd.made W8 w.heap.size [0] 1 rfl #[.int .i64 0] rfl (by omega) _ rfl
  obtain ⟨W9, hr8, hV9, hU8⟩ := (hV8.below hA8).ins { data := #[99, 108, 111, 110, 101] } 9 [0] _ (Fn.func 23) #[p] #[] (by decide) hK8
  have hB9 : Below w.heap.size w W9 := (hB8.trans (hA8.mono hB8.size)).trans (hU8.below (Nat.le_refl _) (by have := hB8.size; simp; omega))
  have hs9 := hV9.lt
  have hA9 := belowA W9 (.cells #[.int .i64 0] 53)
  have hK9 := KRd.made W9 w.heap.size [0] 1 rfl #[.int .i64 0] rfl (by omega) _ rfl
  obtain ⟨W10, hr9, hV10, hU9⟩ := (hV9.below hA9).ins { data := #[100, 114, 111, 112] } 10 [0] _ (Fn.func 24) #[p] #[] (by decide) hK9
  have hB10 : Below w.heap.size w W10 := (hB9.trans (hA9.mono hB9.size)).trans (hU9.below (Nat.le_refl _) (by have := hB9.size; simp; omega))
  have hs10 := hV10.lt
  obtain ⟨W11, hr10, hV11, hU10⟩ := hV10.ins { data := #[115, 121, 110, 99] } 11 [] (.slice none 0 0) (Fn.func 25) #[p] #[] (by decide) (KRd.none _ _)
  have hB11 : Below w.heap.size w W11 := hB10.trans (hU10.below (Nat.le_refl _) hB10.size)
  have hs11 := hV11.lt
  obtain ⟨W12, hr11, hV12, hU11⟩ := hV11.ins { data := #[115, 112, 97, 99, 101] } 12 [] (.slice none 0 0) (Fn.func 26) #[p] #[] (by decide) (KRd.none _ _)
  have hB12 : Below w.heap.size w W12 := hB11.trans (hU11.below (Nat.le_refl _) hB11.size)
  have hs12 := hV12.lt
  have hA12 := belowA W12 (.cells #[.int .i64 3, .int .i64 7] 53)
  have hK12 := KRd.made W12 w.heap.size [3, 7] 2 rfl #[.int .i64 3, .int .i64 7] rfl (by omega) _ rfl
  obtain ⟨W13, hr12, hV13, hU12⟩ := (hV12.below hA12).ins { data := #[99, 114, 97, 115, 104] } 13 [3, 7] _ (Fn.func 27) #[p] #[] (by decide) hK12
  have hB13 : Below w.heap.size w W13 := (hB12.trans (hA12.mono hB12.size)).trans (hU12.below (Nat.le_refl _) (by have := hB12.size; simp; omega))
  have hs13 := hV13.lt
  clear hU0 hU1 hU2 hU3 hU4 hU5 hU6 hU7 hU8 hU9 hU10 hU11 hU12
  go_enter Tryz.func12, Tryz.ntmps12
  go_wp2_with fail
  go_ret
  exact ⟨_, rfl, hV13, hB13⟩

end Go.Proofs.YtempdkoflofglaaGreatDoor
