import Derived.Test.YtbadedhliplkeaaDw0
import Derived.Laws.BytesString
namespace Go.Proofs.Ytbadedhliplkeaa
open Go.RowKit
set_option linter.unusedVariables false

/-- bytes as a text -/
def txB (zs : List Int) : ByteArray := zs.foldl (fun r n => r.push (UInt8.ofNat n.toNat)) ByteArray.empty

theorem conv_any {w : World} {a : Option Addr} {n cap : Nat} {zs : List Int} (h : Bts w (.slice a n cap) zs) (hp : 0 < n) : (convert 22 9 (.slice a n cap)).run Try.prog w = .ok (.string (txB zs)) w := by
  obtain ⟨_, _, he, hc⟩ := h.shape
  simp only [Value.slice.injEq] at he
  obtain ⟨rfl, rfl, rfl⟩ := he
  obtain ⟨b, off, rfl, hcell⟩ := hc hp
  rw [run_convert_bytes_string _ 22 9 5 _ _ _ Try.underlying22 Try.underlying5 Try.underlying9]
  rw [run_bytesToString _ _ zs.length cap zs ?_]
  · rfl
  · have hl := run_loadCells_list (P := Try.prog) w ⟨b, off, none⟩ (zs.map (Value.int .u8)) (fun j v hj => by
      have hjl : j < zs.length := by
        by_cases hh : j < zs.length
        · exact hh
        · simp [show zs.length ≤ j by omega] at hj
      have e : (({ block := b, off := off, spot := none } : Addr).add j) = ⟨b, off + j, none⟩ := by
        unfold Addr.add; by_cases h0 : j = 0 <;> simp [h0]
      rw [e, hcell j hjl]
      simp only [List.getElem?_map, List.getElem?_eq_getElem hjl, Option.map_some, Option.some.injEq] at hj
      simp [← hj, hjl])
    simpa using hl

theorem bits_same : ((List.range 256).all fun (m : Nat) => (List.range 8).all fun (s : Nat) => ((bits .and .u8 ((m : Int) / 2 ^ s) 1 == 1) == (bits .and .u8 (m : Int) (2 ^ s % 256) != 0))) = true := by kernel_rfl

theorem bit_eq (m : Int) (s : Nat) (hm : 0 ≤ m ∧ m < 256) (hs : s < 8) : (bits .and .u8 (m / 2 ^ s) 1 == 1) = (bits .and .u8 m (2 ^ s % 256) != 0) := by
  have h1 := List.all_eq_true.1 bits_same m.toNat (List.mem_range.2 (by omega))
  have h2 := List.all_eq_true.1 h1 s (List.mem_range.2 hs)
  have e : ((m.toNat : Nat) : Int) = m := by omega
  rw [e] at h2
  exact beq_iff_eq.1 h2

/-- the law's own test of a bit -/
theorem law_bit {ks : List Int} {k : Nat} (h8 : k / 8 < ks.length) (hs : 0 ≤ ks.getD (k / 8) 0 ∧ ks.getD (k / 8) 0 < 256) {b : Bool} (hb : (bits BinOp.and IntKind.u8 ks[k / 8] (2 ^ (k % 8) % 256) != 0) = b) : kept false ks k = b := by
  simp only [List.getD_eq_getElem?_getD, List.getElem?_eq_getElem h8, Option.getD_some] at hs
  simp only [kept, kbit, Bool.false_or, List.getD_eq_getElem?_getD, List.getElem?_eq_getElem h8, Option.getD_some, decide_eq_true h8, Bool.true_and]
  rw [bit_eq _ _ hs (by omega)]
  exact hb

/-- a write and a flush, as steps -/
theorem ap_two {B : Int} {zs : List Int} {ps : List (Int × List Int)} {q : Int} {ds : List Int} (hok : dOK B zs ps = true) (hw : wC B ps.length q ds.length = 0) :
    aZ B zs ps [(1, q, ds), (2, 0, [])] 2 = settle zs (ps ++ [(q, ds)]) ∧ aP B zs ps [(1, q, ds), (2, 0, [])] 2 = [] ∧ aC B zs ps [(1, q, ds), (2, 0, [])] 2 = 0 := by
  have hP : wP B ps q ds = ps ++ [(q, ds)] := if_pos hw
  have e : apS B zs ps [(1, q, ds), (2, 0, [])] 2 = (settle zs (ps ++ [(q, ds)]), [], 0) := by
    unfold apS
    rw [if_neg (by simp)]
    have e1 : upTo 2 2 = 2 := by decide
    rw [show ([(1, q, ds), (2, 0, [])] : List (Int × Int × List Int)).length = 2 from rfl, e1]
    simp [runS, stC, stZ, stP, hw, hP]
  simp [aZ, aP, aC, hok, e]

/-- the two steps, laid down -/
theorem steps2_read {w : World} {ea : Option Addr} {ec : Nat} {ds : List Int} (q : Int) (h : Bts w (.slice ea ds.length ec) ds) :
    SRead (w.alloc (.cells #[.int .i64 1, .int .i64 q, .slice ea ds.length ec, .int .i64 2, .int .i64 0, .slice none 0 0] 46)) (.slice (some ⟨w.heap.size, 0, none⟩) 2 2) [(1, q, ds), (2, 0, [])] := by
  refine ⟨some ⟨w.heap.size, 0, none⟩, 2, rfl, fun _ => ⟨w.heap.size, 0, rfl, fun i hi => ?_⟩⟩
  have hA := belowA w (.cells #[.int .i64 1, .int .i64 q, .slice ea ds.length ec, .int .i64 2, .int .i64 0, .slice none 0 0] 46)
  match i, hi with
  | 0, _ =>
    refine ⟨ea, ec, ?_, ?_, ?_, h.below hA⟩ <;> simp [World.cell?_alloc_at]
  | 1, _ =>
    refine ⟨none, 0, ?_, ?_, ?_, ⟨fun j => by simp, none, 0, rfl, fun hp => by simp at hp⟩⟩ <;> simp [World.cell?_alloc_at]

end Go.Proofs.Ytbadedhliplkeaa
