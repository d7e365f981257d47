import Derived.Test.YtfbjagjgofdheaaGreatDoorRows
import Derived.WalkKit
import Derived.LaidEql
import Derived.Stop.Asserts
import Derived.RowKitTokens
import Derived.Below
import Derived.Lib.ReflectliteSlice
import Derived.Stop.IfaceNil
import Derived.Test.YtfbjagjgofdheaaGreatDoorBytes
namespace Go.Proofs.YtfbjagjgofdheaaGreatDoor
open Go.RowKit Go.Extern.Stop Go.Stop Go.Extern

/-! errors.Is and errors.As on a *placeError that holds a sentinel (after the guide's SentryIs, ToyasAs) -/
theorem isTypeOf (v : Value) (w : World) : (Extern.ReflectliteType.typeOf #[.iface 146 v]).run Tryz.prog w = .ok (.iface 129 (.agg #[.pointer (some ⟨8, 146, none⟩)])) w := by kernel_rfl
/-- the model's entry, by a name -/
def compFn : Array Value → Sem Value := Extern.ReflectliteType.method fun t => do Extern.Rtype.noPackHeld "Comparable" t; pure (.bool (← typeInfo t).comparable)
theorem isComparable (w : World) : (compFn #[.agg #[.pointer (some ⟨8, 146, none⟩)]]).run Tryz.prog w = .ok (.bool true) w := by kernel_rfl
theorem isMethodComparable (v : Value) (w : World) : (Go.method 284 129 v "Comparable").run Tryz.prog w = .ok (115, v) w := by kernel_rfl
theorem isComp : (Tryz.prog.info? 146).map (·.comparable) = some true := by kernel_rfl
theorem isSize : (Tryz.prog.info? 172).map (·.size) = some 1 := by kernel_rfl
theorem noIsE (v : Value) (xT : TypeId) (w : World) : (Instr.typeAssert (.iface 146 v) xT 131 true).run Tryz.prog w = .ok (.tuple #[.nilIface, .bool false]) w := run_typeAssert_lacksB Tryz.underlying131 (by kernel_rfl) (by kernel_rfl) v xT w
theorem noUnwrapE (v : Value) (xT : TypeId) (w : World) : (Instr.typeAssert (.iface 146 v) xT 134 true).run Tryz.prog w = .ok (.tuple #[.nilIface, .bool false]) w := run_typeAssert_lacksB Tryz.underlying134 (by kernel_rfl) (by kernel_rfl) v xT w
theorem noUnwrapsE (v : Value) (xT : TypeId) (w : World) : (Instr.typeAssert (.iface 146 v) xT 135 true).run Tryz.prog w = .ok (.tuple #[.nilIface, .bool false]) w := run_typeAssert_lacksB Tryz.underlying135 (by kernel_rfl) (by kernel_rfl) v xT w
theorem noIsW (v : Value) (xT : TypeId) (w : World) : (Instr.typeAssert (.iface 92 v) xT 131 true).run Tryz.prog w = .ok (.tuple #[.nilIface, .bool false]) w := run_typeAssert_lacksB Tryz.underlying131 (by kernel_rfl) (by kernel_rfl) v xT w
theorem hasUnwrapW (v : Value) (xT : TypeId) (w : World) : (Instr.typeAssert (.iface 92 v) xT 134 true).run Tryz.prog w = .ok (.tuple #[.iface 92 v, .bool true]) w := run_typeAssert_hasB Tryz.underlying134 (by kernel_rfl) v xT w
theorem methodUnwrap (v : Value) (w : World) : (Go.method 284 92 v "Unwrap").run Tryz.prog w = .ok (109, v) w := by kernel_rfl

/-- errors.Is(e, x), e a *placeError that holds x itself -/
theorem is_wrap_same (pb po : Nat) (b : Addr) (w : World) (h1 : w.cell? ⟨pb, po + 1, none⟩ = some (.iface 146 (.pointer (some b)))) :
    Calls Tryz.prog 44 #[.iface 92 (.pointer (some ⟨pb, po, none⟩)), .iface 146 (.pointer (some b))] w fun e w' => e = .returned (.bool true) ∧ w = w' := by
  obtain ⟨i, hi, hcmp⟩ := Option.map_eq_some_iff.1 isComp
  obtain ⟨j, hj, hjs⟩ := Option.map_eq_some_iff.1 isSize
  have h8 := @run_callFunc_extern Tryz.prog 54 _ Extern.ReflectliteType.typeOf Tryz.func54 (by kernel_rfl) (by kernel_rfl) (by kernel_rfl) (by kernel_rfl)
  have h32 := @run_callFunc_extern Tryz.prog 115 _ compFn Tryz.func115 (by kernel_rfl) (by kernel_rfl) (by kernel_rfl) (by kernel_rfl)
  have tT := isTypeOf
  have cT := isComparable
  have mR := isMethodComparable
  have nW := noIsW
  have uW := hasUnwrapW
  have mU := methodUnwrap
  have heq := run_eql_iface_ptr_same (P := Tryz.prog) w b Tryz.underlying65 Tryz.underlying146 hi hcmp hj
  have hty := run_eql_iface_types (P := Tryz.prog) 92 146 (.pointer (some ⟨pb, po, none⟩)) (.pointer (some b)) Tryz.underlying65 (by decide) w
  go_enter Tryz.func44, Tryz.ntmps44
  go_wp2
  refine wp_loop_rounds 2 ?_
  rw [rounds_succ]
  go_wp2
  rw [rounds_succ]
  go_wp2
  go_ret
  exact ⟨rfl, rfl⟩

/-- errors.Is(e, x), e a *placeError that holds another sentinel -/
theorem is_wrap_other (pb po : Nat) (b a : Addr) (ca cb : Array Value) (ta tb : TypeId) (w : World) (h1 : w.cell? ⟨pb, po + 1, none⟩ = some (.iface 146 (.pointer (some a)))) (hne : a ≠ b) (ha : w.heap[a.block]? = some (.cells ca ta (0, 0))) (hb : w.heap[b.block]? = some (.cells cb tb (0, 0))) :
    Calls Tryz.prog 44 #[.iface 92 (.pointer (some ⟨pb, po, none⟩)), .iface 146 (.pointer (some b))] w fun e w' => e = .returned (.bool false) ∧ w = w' := by
  obtain ⟨i, hi, hcmp⟩ := Option.map_eq_some_iff.1 isComp
  obtain ⟨j, hj, hjs⟩ := Option.map_eq_some_iff.1 isSize
  have h8 := @run_callFunc_extern Tryz.prog 54 _ Extern.ReflectliteType.typeOf Tryz.func54 (by kernel_rfl) (by kernel_rfl) (by kernel_rfl) (by kernel_rfl)
  have h32 := @run_callFunc_extern Tryz.prog 115 _ compFn Tryz.func115 (by kernel_rfl) (by kernel_rfl) (by kernel_rfl) (by kernel_rfl)
  have tT := isTypeOf
  have cT := isComparable
  have mR := isMethodComparable
  have nE := noIsE
  have uE := noUnwrapE
  have vE := noUnwrapsE
  have nW := noIsW
  have uW := hasUnwrapW
  have mU := methodUnwrap
  have heq := run_eql_iface_ptr_other (P := Tryz.prog) w Tryz.underlying65 Tryz.underlying146 hi hcmp hj (by rw [hjs]; decide) hne ha hb
  have hty := run_eql_iface_types (P := Tryz.prog) 92 146 (.pointer (some ⟨pb, po, none⟩)) (.pointer (some b)) Tryz.underlying65 (by decide) w
  go_enter Tryz.func44, Tryz.ntmps44
  go_wp2
  refine wp_loop_rounds 2 ?_
  rw [rounds_succ]
  go_wp2
  rw [rounds_succ]
  go_wp2
  go_ret
  exact ⟨rfl, rfl⟩
end Go.Proofs.YtfbjagjgofdheaaGreatDoor

namespace Go.Proofs.YtfbjagjgofdheaaGreatDoor
open Go.RowKit Go.Extern.Stop Go.Stop Go.Extern

/-! the model's entries for internal/reflectlite at these types, by names; what each yields -/
def vofFn : Array Value → Sem Value := fun args => ReflectliteValue.unpack (args.getD 0 (.tuple #[]))
def vtypeFn : Array Value → Sem Value := ReflectliteValue.methodAny (ReflectliteValue.valueError "reflectlite.Value.Type" 0) (fun t _ _ _ => ReflectliteType.toType t)
def vnilFn : Array Value → Sem Value := ReflectliteValue.method (ReflectliteValue.valueError "reflectlite.Value.IsNil" 0) ReflectliteValue.isNil
def kindFn : Array Value → Sem Value := ReflectliteType.abiMethod fun t => do pure (.int .u8 (← Rtype.kind t))
def telemFn : Array Value → Sem Value := ReflectliteType.method ReflectliteType.elem
def implFn : Array Value → Sem Value := ReflectliteType.relation "Implements" ReflectliteType.implements_
def assFn : Array Value → Sem Value := ReflectliteType.relation "AssignableTo" ReflectliteType.assignableTo
def velemFn : Array Value → Sem Value := ReflectliteValue.method (ReflectliteValue.valueError "reflectlite.Value.Elem" 0) ReflectliteValue.elem
def vsetFn : Array Value → Sem Value := ReflectliteValue.set

theorem valueOfPP (t : Addr) (w : World) : (vofFn #[.iface 97 (.pointer (some t))]).run Tryz.prog w
    = .ok (.agg #[.pointer (some ⟨8, 97, none⟩), .pointer (some ⟨w.heap.size, 0, none⟩), .int .u64 150]) (w.alloc (.cells #[.pointer (some t)] 97)) := by kernel_rfl
theorem typePP (a : Addr) (w : World) : (vtypeFn #[.agg #[.pointer (some ⟨8, 97, none⟩), .pointer (some a), .int .u64 150]]).run Tryz.prog w
    = .ok (.iface 129 (.agg #[.pointer (some ⟨8, 97, none⟩)])) w := by kernel_rfl
theorem methodKind (h : Value) (w : World) : (Go.method 284 129 (.agg #[h]) "Kind").run Tryz.prog w = .ok (87, h) w := by kernel_rfl
theorem kindPP (w : World) : (kindFn #[.pointer (some ⟨8, 97, none⟩)]).run Tryz.prog w = .ok (.int .u8 22) w := by kernel_rfl
theorem kindP (w : World) : (kindFn #[.pointer (some ⟨8, 92, none⟩)]).run Tryz.prog w = .ok (.int .u8 22) w := by kernel_rfl
theorem partsPP (a : Addr) (w : World) : (ReflectliteValue.parts (.agg #[.pointer (some ⟨8, 97, none⟩), .pointer (some a), .int .u64 150])).run Tryz.prog w = .ok (some (97, a, 150)) w := by kernel_rfl
theorem isNilPP (a p : Addr) (W : World) (ha : W.cell? a = some (.pointer (some p))) :
    (vnilFn #[.agg #[.pointer (some ⟨8, 97, none⟩), .pointer (some a), .int .u64 150]]).run Tryz.prog W = .ok (.bool false) W := by
  unfold vnilFn
  rw [Go.Lib.rl_method]
  simp only [Sem.run_bind, partsPP, Result.andThen]
  simp [ReflectliteValue.isNil, loadVar, isAgg, underlying, Tryz.underlying97, ha, Result.andThen]
theorem methodElem (h : Value) (w : World) : (Go.method 284 129 (.agg #[h]) "Elem").run Tryz.prog w = .ok (116, .agg #[h]) w := by kernel_rfl
theorem methodImplements (h : Value) (w : World) : (Go.method 284 129 (.agg #[h]) "Implements").run Tryz.prog w = .ok (117, .agg #[h]) w := by kernel_rfl
theorem methodAssignableTo (h : Value) (w : World) : (Go.method 284 129 (.agg #[h]) "AssignableTo").run Tryz.prog w = .ok (114, .agg #[h]) w := by kernel_rfl
theorem elemPP (w : World) : (telemFn #[.agg #[.pointer (some ⟨8, 97, none⟩)]]).run Tryz.prog w = .ok (.iface 129 (.agg #[.pointer (some ⟨8, 92, none⟩)])) w := by kernel_rfl
theorem implementsP (w : World) : (implFn #[.agg #[.pointer (some ⟨8, 92, none⟩)], .iface 129 (.agg #[.pointer (some ⟨8, 65, none⟩)])]).run Tryz.prog w = .ok (.bool true) w := by kernel_rfl
theorem typeOfP (v : Value) (w : World) : (ReflectliteType.typeOf #[.iface 92 v]).run Tryz.prog w = .ok (.iface 129 (.agg #[.pointer (some ⟨8, 92, none⟩)])) w := by kernel_rfl
theorem assignableP (w : World) : (assFn #[.agg #[.pointer (some ⟨8, 92, none⟩)], .iface 129 (.agg #[.pointer (some ⟨8, 92, none⟩)])]).run Tryz.prog w = .ok (.bool true) w := by kernel_rfl
theorem valueOfP (e : Addr) (w : World) : (vofFn #[.iface 92 (.pointer (some e))]).run Tryz.prog w
    = .ok (.agg #[.pointer (some ⟨8, 92, none⟩), .pointer (some ⟨w.heap.size, 0, none⟩), .int .u64 150]) (w.alloc (.cells #[.pointer (some e)] 92)) := by kernel_rfl
theorem elemOfPP (w : World) : (Rtype.elem? 97).run Tryz.prog w = .ok (some 92) w := by kernel_rfl
theorem mkP (p : Addr) (w : World) : (ReflectliteValue.mk 92 p ReflectliteValue.flagAddr).run Tryz.prog w = .ok (.agg #[.pointer (some ⟨8, 92, none⟩), .pointer (some p), .int .u64 406]) w := by kernel_rfl
theorem elemVPP (a p : Addr) (W : World) (ha : W.cell? a = some (.pointer (some p))) :
    (velemFn #[.agg #[.pointer (some ⟨8, 97, none⟩), .pointer (some a), .int .u64 150]]).run Tryz.prog W
      = .ok (.agg #[.pointer (some ⟨8, 92, none⟩), .pointer (some p), .int .u64 406]) W := by
  unfold velemFn
  rw [Go.Lib.rl_method]
  simp only [Sem.run_bind, partsPP, Result.andThen]
  simp [ReflectliteValue.elem, loadVar, isAgg, underlying, Tryz.underlying97, ha, Result.andThen, elemOfPP, mkP]
theorem partsPa (a : Addr) (w : World) : (ReflectliteValue.parts (.agg #[.pointer (some ⟨8, 92, none⟩), .pointer (some a), .int .u64 406])).run Tryz.prog w = .ok (some (92, a, 406)) w := by kernel_rfl
theorem partsP (a : Addr) (w : World) : (ReflectliteValue.parts (.agg #[.pointer (some ⟨8, 92, none⟩), .pointer (some a), .int .u64 150])).run Tryz.prog w = .ok (some (92, a, 150)) w := by kernel_rfl
theorem directP (w : World) : (Rtype.directlyAssignable 92 92).run Tryz.prog w = .ok true w := by kernel_rfl
theorem setP (ta b e : Addr) (old : Value) (W : World) (hb : W.cell? b = some (.pointer (some e))) (ht : W.cell? ta = some old) (hf : W.frozen? ta = false) :
    (vsetFn #[.agg #[.pointer (some ⟨8, 92, none⟩), .pointer (some ta), .int .u64 406], .agg #[.pointer (some ⟨8, 92, none⟩), .pointer (some b), .int .u64 150]]).run Tryz.prog W
      = .ok (.tuple #[]) (W.setCell ta (.pointer (some e))) := by
  unfold vsetFn
  refine (congrArg (fun m : Sem Value => m.run Tryz.prog W) (show ReflectliteValue.set #[.agg #[.pointer (some ⟨8, 92, none⟩), .pointer (some ta), .int .u64 406], .agg #[.pointer (some ⟨8, 92, none⟩), .pointer (some b), .int .u64 150]] = (ReflectliteValue.parts (.agg #[.pointer (some ⟨8, 92, none⟩), .pointer (some ta), .int .u64 406]) >>= fun p => ReflectliteValue.parts (.agg #[.pointer (some ⟨8, 92, none⟩), .pointer (some b), .int .u64 150]) >>= _) from rfl)).trans ?_
  simp only [Sem.run_bind, partsPa, partsP, Result.andThen]
  simp [ReflectliteValue.flagAddr, loadVar, isAgg, underlying, Tryz.underlying92, hb, Result.andThen, directP, storeVar, Value.cells, storeCells, Addr.add]
  rw [run_store Tryz.prog W ta _ _ (by rfl)]
  simp [ht, hf]

set_option maxHeartbeats 4000000 in
theorem as_hit (e t : Addr) (old : Value) (w : World) (hg : w.cell? ⟨4, 0, none⟩ = some (.iface 129 (.agg #[.pointer (some ⟨8, 65, none⟩)]))) (ht0 : w.cell? t = some old) (hf0 : w.frozen? t = false) :
    Calls Tryz.prog 45 #[.iface 92 (.pointer (some e)), .iface 97 (.pointer (some t))] w fun ev w' => ev = .returned (.bool true) ∧ w' = ((((w.alloc (.cells #[.pointer (some t)] 97)).alloc (.cells #[.pointer (some ⟨8, 97, none⟩), .pointer (some ⟨w.heap.size, 0, none⟩), .int .u64 150] 117)).alloc (.cells #[.pointer (some ⟨8, 97, none⟩), .pointer (some ⟨w.heap.size, 0, none⟩), .int .u64 150] 117)).alloc (.cells #[.pointer (some e)] 92)).setCell t (.pointer (some e)) := by
  have h6 := @run_callFunc_extern Tryz.prog 56 _ vofFn Tryz.func56 (by kernel_rfl) (by kernel_rfl) (by kernel_rfl) (by kernel_rfl)
  have h7 := @run_callFunc_extern Tryz.prog 57 _ vtypeFn Tryz.func57 (by kernel_rfl) (by kernel_rfl) (by kernel_rfl) (by kernel_rfl)
  have h8 := @run_callFunc_extern Tryz.prog 58 _ vnilFn Tryz.func58 (by kernel_rfl) (by kernel_rfl) (by kernel_rfl) (by kernel_rfl)
  have h27 := @run_callFunc_extern Tryz.prog 87 _ kindFn Tryz.func87 (by kernel_rfl) (by kernel_rfl) (by kernel_rfl) (by kernel_rfl)
  have h37 := @run_callFunc_extern Tryz.prog 116 _ telemFn Tryz.func116 (by kernel_rfl) (by kernel_rfl) (by kernel_rfl) (by kernel_rfl)
  have h38 := @run_callFunc_extern Tryz.prog 117 _ implFn Tryz.func117 (by kernel_rfl) (by kernel_rfl) (by kernel_rfl) (by kernel_rfl)
  have h10 := @run_callFunc_extern Tryz.prog 54 _ ReflectliteType.typeOf Tryz.func54 (by kernel_rfl) (by kernel_rfl) (by kernel_rfl) (by kernel_rfl)
  have h35 := @run_callFunc_extern Tryz.prog 114 _ assFn Tryz.func114 (by kernel_rfl) (by kernel_rfl) (by kernel_rfl) (by kernel_rfl)
  have h11 := @run_callFunc_extern Tryz.prog 68 _ velemFn Tryz.func68 (by kernel_rfl) (by kernel_rfl) (by kernel_rfl) (by kernel_rfl)
  have h12 := @run_callFunc_extern Tryz.prog 69 _ vsetFn Tryz.func69 (by kernel_rfl) (by kernel_rfl) (by kernel_rfl) (by kernel_rfl)
  have tO := typeOfP
  have mA := methodAssignableTo
  have a25 := assignableP
  have v25 := valueOfP
  have f6 := valueOfPP
  have f7 := typePP
  have mK := methodKind
  have mE := methodElem
  have mI := methodImplements
  have k27 := kindPP
  have k25 := kindP
  have e27 := elemPP
  have i25 := implementsP
  have n8 := isNilPP ⟨w.heap.size, 0, none⟩ t ((w.alloc (.cells #[.pointer (some t)] 97)).alloc (.cells #[.pointer (some ⟨8, 97, none⟩), .pointer (some ⟨w.heap.size, 0, none⟩), .int .u64 150] 117)) (by simp)
  have hlt : 4 < w.heap.size := World.block_lt_of_cell? _ _ hg
  have hg2 : ((w.alloc (.cells #[.pointer (some t)] 97)).alloc (.cells #[.pointer (some ⟨8, 97, none⟩), .pointer (some ⟨w.heap.size, 0, none⟩), .int .u64 150] 117)).cell? ⟨4, 0, none⟩ = some (.iface 129 (.agg #[.pointer (some ⟨8, 65, none⟩)])) := by
    rw [World.cell?_alloc_lt _ _ ⟨4, 0, none⟩ (by simp; omega), World.cell?_alloc_lt _ _ ⟨4, 0, none⟩ hlt]; exact hg
  have htl : t.block < w.heap.size := World.block_lt_of_cell? _ _ ht0
  have el := elemVPP ⟨w.heap.size, 0, none⟩ t (((w.alloc (.cells #[.pointer (some t)] 97)).alloc (.cells #[.pointer (some ⟨8, 97, none⟩), .pointer (some ⟨w.heap.size, 0, none⟩), .int .u64 150] 117)).alloc (.cells #[.pointer (some ⟨8, 97, none⟩), .pointer (some ⟨w.heap.size, 0, none⟩), .int .u64 150] 117)) (by rw [World.cell?_alloc_lt _ _ ⟨w.heap.size, 0, none⟩ (by simp; omega)]; simp)
  have st := setP t ⟨w.heap.size + 1 + 1 + 1, 0, none⟩ e old ((((w.alloc (.cells #[.pointer (some t)] 97)).alloc (.cells #[.pointer (some ⟨8, 97, none⟩), .pointer (some ⟨w.heap.size, 0, none⟩), .int .u64 150] 117)).alloc (.cells #[.pointer (some ⟨8, 97, none⟩), .pointer (some ⟨w.heap.size, 0, none⟩), .int .u64 150] 117)).alloc (.cells #[.pointer (some e)] 92))
    (by rw [World.cell?_alloc_at _ _ _ _ (by simp)]; rfl)
    (by rw [World.cell?_alloc_lt _ _ t (by simp; omega), World.cell?_alloc_lt _ _ t (by simp; omega), World.cell?_alloc_lt _ _ t (by simp; omega), World.cell?_alloc_lt _ _ t htl]; exact ht0)
    (by rw [World.frozen?_alloc_old _ _ t (by simp; omega), World.frozen?_alloc_old _ _ t (by simp; omega), World.frozen?_alloc_old _ _ t (by simp; omega), World.frozen?_alloc_old _ _ t (Nat.ne_of_lt htl)]; exact hf0)
  go_enter Tryz.func45, Tryz.ntmps45
  go_wp2
  refine wp_loop_rounds 1 ?_
  rw [rounds_succ]
  go_wp2
  go_ret
  exact ⟨rfl, rfl⟩
end Go.Proofs.YtfbjagjgofdheaaGreatDoor

namespace Go.Proofs.YtfbjagjgofdheaaGreatDoor
open Go.RowKit Go.Extern.Stop Go.Stop Go.Extern

/-- the package's sentinels lie at adr; errors.errorType is laid -/
structure Laid (w : World) (adr : Nat → Addr) : Prop where
  typ : w.cell? ⟨4, 0, none⟩ = some (.iface 129 (.agg #[.pointer (some ⟨8, 65, none⟩)]))
  var : ∀ g, g ∈ ([0, 1, 2, 3, 5, 6, 7] : List Nat) → w.cell? ⟨g, 0, none⟩ = some (.iface 146 (.pointer (some (adr g))))
  obj : ∀ g, g ∈ ([0, 1, 2, 3, 5, 6, 7] : List Nat) → ∃ c t, w.heap[(adr g).block]? = some (.cells c t (0, 0))
  inj : ∀ g g', g ∈ ([0, 1, 2, 3, 5, 6, 7] : List Nat) → g' ∈ ([0, 1, 2, 3, 5, 6, 7] : List Nat) → g ≠ g' → adr g ≠ adr g'

theorem Laid.below {w w' : World} {adr : Nat → Addr} (h : Laid w adr) (k : Below w.heap.size w w') : Laid w' adr := by
  refine ⟨(k.cell (p := ⟨4, 0, none⟩) (World.block_lt_of_cell? _ _ h.typ)).trans h.typ, fun g hg => ?_, fun g hg => ?_, h.inj⟩
  · have e := h.var g hg
    exact (k.cell (p := ⟨g, 0, none⟩) (World.block_lt_of_cell? _ _ e)).trans e
  · obtain ⟨c, t, e⟩ := h.obj g hg
    exact ⟨c, t, (k.block _ (Array.getElem?_eq_some_iff.1 e).1).trans e⟩

/-- v is a *placeError that holds the sentinel of variable g -/
def PErr (w : World) (adr : Nat → Addr) (v : Value) (g : Nat) : Prop :=
  g ∈ ([0, 1, 2, 3, 5, 6, 7] : List Nat) ∧ ∃ pb po, v = .iface 92 (.pointer (some ⟨pb, po, none⟩)) ∧ w.cell? ⟨pb, po + 1, none⟩ = some (.iface 146 (.pointer (some (adr g))))

/-- the code of a fault -/
def cdOf (g : Nat) : Int := if g = 1 then 3 else if g = 2 then 6 else 5

theorem is_place {w : World} {adr : Nat → Addr} (hL : Laid w adr) {v : Value} {g : Nat} (hv : PErr w adr v g) (t : Nat) (ht : t ∈ ([0, 1, 2, 3, 5, 6, 7] : List Nat)) :
    Calls Tryz.prog 44 #[v, .iface 146 (.pointer (some (adr t)))] w fun e w' => e = .returned (.bool (decide (g = t))) ∧ w = w' := by
  obtain ⟨hg, pb, po, rfl, h1⟩ := hv
  by_cases e : g = t
  · subst e
    refine (is_wrap_same pb po (adr g) w h1).mono ?_
    rintro e w' ⟨rfl, rfl⟩
    exact ⟨by simp, rfl⟩
  · obtain ⟨c1, t1, e1⟩ := hL.obj g hg
    obtain ⟨c2, t2, e2⟩ := hL.obj t ht
    refine (is_wrap_other pb po (adr t) (adr g) c1 c2 t1 t2 w h1 (hL.inj g t hg ht e) e1 e2).mono ?_
    rintro e' w' ⟨rfl, rfl⟩
    exact ⟨by rw [decide_eq_false e], rfl⟩

set_option maxHeartbeats 1000000 in
theorem codeOf_any {w : World} {adr : Nat → Addr} (hL : Laid w adr) {v : Value} {g : Nat} (hv : PErr w adr v g) :
    Calls Tryz.prog 29 #[v] w fun e w' => e = .returned (.int .i64 (cdOf g)) ∧ Below w.heap.size w w' := by
  have hb0 : Below w.heap.size w (w.alloc (.cells #[.pointer none] 92)) := (Below.refl _ _).alloc (Nat.le_refl _) _
  have hL1 := hL.below hb0
  have hv1 : PErr (w.alloc (.cells #[.pointer none] 92)) adr v g := by
    obtain ⟨hg, pb, po, e, h1⟩ := hv
    exact ⟨hg, pb, po, e, (hb0.cell (p := ⟨pb, po + 1, none⟩) (World.block_lt_of_cell? _ _ h1)).trans h1⟩
  have c1 := hL1.var 1 (by decide)
  have c2 := hL1.var 2 (by decide)
  obtain ⟨hg, pb, po, hve, h1⟩ := hv
  have HV : Hid (PErr (w.alloc (.cells #[.pointer none] 92)) adr v g) := hv1
  subst hve
  have hnil := fun w => run_eql_iface_nil (P := Tryz.prog) (w := w) 65 (by kernel_rfl) 92 (.pointer (some ⟨pb, po, none⟩))
  clear hv1
  go_enter Tryz.func29, Tryz.ntmps29
  go_wp2_with fail
  refine (is_place hL1 HV.out 1 (by decide)).mono ?_
  rintro e w' ⟨rfl, rfl⟩
  have HC : Hid (cdOf g = if g = 1 then 3 else if g = 2 then 6 else 5) := rfl
  by_cases e1 : g = 1
  · have HC1 : Hid (cdOf g = 3) := by rw [HC.out, if_pos e1]; rfl
    rw [decide_eq_true e1]
    clear e1
    go_wp2
    go_ret
    exact ⟨by rw [HC1.out]; rfl, hb0⟩
  · rw [decide_eq_false e1]
    go_wp2_with fail
    refine (is_place hL1 HV.out 2 (by decide)).mono ?_
    rintro e w' ⟨rfl, rfl⟩
    by_cases e2 : g = 2
    · have HC1 : Hid (cdOf g = 6) := by rw [HC.out, if_neg e1, if_pos e2]; rfl
      rw [decide_eq_true e2]
      clear e1 e2
      go_wp2
      go_ret
      exact ⟨by rw [HC1.out]; rfl, hb0⟩
    · have HC1 : Hid (cdOf g = 5) := by rw [HC.out, if_neg e1, if_neg e2]; rfl
      rw [decide_eq_false e2]
      clear e1 e2
      have ct : (w.alloc (.cells #[.pointer none] 92)).cell? ⟨w.heap.size, 0, none⟩ = some (.pointer none) := World.cell?_alloc_at _ _ _ _ rfl
      have cf : (w.alloc (.cells #[.pointer none] 92)).frozen? ⟨w.heap.size, 0, none⟩ = false := World.frozen?_alloc_at _ _ _ _ rfl
      go_wp2_with fail
      refine (as_hit _ ⟨w.heap.size, 0, none⟩ (.pointer none) _ hL1.typ ct cf).mono ?_
      rintro e w' ⟨rfl, hw⟩
      have hB : Below w.heap.size w w' := by
        rw [hw]
        exact (((((hb0.alloc (by simp) _).alloc (by simp; omega) _).alloc (by simp; omega) _).alloc (by simp; omega) _).setCell (p := ⟨w.heap.size, 0, none⟩) (Nat.le_refl _) _)
      clear hw ct cf
      go_wp2
      go_ret
      exact ⟨by rw [HC1.out]; rfl, hB⟩
end Go.Proofs.YtfbjagjgofdheaaGreatDoor

namespace Go.Proofs.YtfbjagjgofdheaaGreatDoor
open Go.RowKit

/-- least ≤ value ≤ most, as the program answers it -/
def inB (v lo hi : Int) : Bool := decide (lo ≤ v ∧ v ≤ hi)
theorem inB_true {v lo hi : Int} (h : lo ≤ v ∧ v ≤ hi) : inB v lo hi = true := by simp [inB, h]
theorem inB_false {v lo hi : Int} (h : ¬ (lo ≤ v ∧ v ≤ hi)) : inB v lo hi = false := by simp only [inB]; exact decide_eq_false h

set_option maxHeartbeats 400000 in
theorem within_any (v lo hi : Int) (w : World) :
    Calls Tryz.prog 70 #[.int .i64 v, .int .i64 lo, .int .i64 hi] w fun e w' => e = .returned (.bool (inB v lo hi)) ∧ w = w' := by
  by_cases h1 : lo ≤ v
  · by_cases h2 : v ≤ hi
    · rw [inB_true ⟨h1, h2⟩]
      go_enter Tryz.func70, Tryz.ntmps70
      go_wp2
      go_ret
      exact ⟨rfl, rfl⟩
    · rw [inB_false (by omega)]
      go_enter Tryz.func70, Tryz.ntmps70
      go_wp2
      go_ret
      exact ⟨rfl, rfl⟩
  · rw [inB_false (by omega)]
    go_enter Tryz.func70, Tryz.ntmps70
    go_wp2
    go_ret
    exact ⟨rfl, rfl⟩

set_option maxHeartbeats 400000 in
theorem l1BlocksOK_any (v : Int) (w : World) :
    Calls Tryz.prog 67 #[.int .i64 v] w fun e w' => e = .returned (.bool (inB v 8 512)) ∧ w = w' := by
  by_cases h1 : 8 ≤ v
  · by_cases h2 : v ≤ 512
    · rw [inB_true ⟨h1, h2⟩]
      go_enter Tryz.func67, Tryz.ntmps67
      go_wp2
      go_ret
      exact ⟨rfl, rfl⟩
    · rw [inB_false (by omega)]
      go_enter Tryz.func67, Tryz.ntmps67
      go_wp2
      go_ret
      exact ⟨rfl, rfl⟩
  · rw [inB_false (by omega)]
    go_enter Tryz.func67, Tryz.ntmps67
    go_wp2
    go_ret
    exact ⟨rfl, rfl⟩

end Go.Proofs.YtfbjagjgofdheaaGreatDoor
