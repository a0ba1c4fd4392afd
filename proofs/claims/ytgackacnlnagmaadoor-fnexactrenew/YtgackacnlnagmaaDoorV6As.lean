/-
  The library's errors.As where the error is a refusal and the target a variable of that type: true, and the variable holds the refusal; the program's leaseCode by it.
-/
import Derived.Test.YtgackacnlnagmaaDoorAOk
import Derived.LaidEql
import Derived.Stop.Asserts
import Derived.RowKitTokens
namespace Go.Proofs.YtgackacnlnagmaaDoor
open Go.RowKit Go.Extern.Stop Go.Stop Go.Extern

theorem Tryd.vPtr (t : Addr) (w : World) : (ReflectliteValue.unpack (.iface 74 (.pointer (some t)))).run Tryd.prog w
    = .ok (.agg #[.pointer (some ⟨1, 74, none⟩), .pointer (some ⟨w.heap.size, 0, none⟩), .int .u64 150]) (w.alloc (.cells #[.pointer (some t)] 74)) := by kernel_rfl
theorem Tryd.tPtr (a : Addr) (w : World) : (ReflectliteValue.methodAny (ReflectliteValue.valueError "reflectlite.Value.Type" 0) (fun t _ _ _ => ReflectliteType.toType t) #[.agg #[.pointer (some ⟨1, 74, none⟩), .pointer (some a), .int .u64 150]]).run Tryd.prog w
    = .ok (.iface 101 (.agg #[.pointer (some ⟨1, 74, none⟩)])) w := by kernel_rfl
theorem Tryd.mKind (h : Value) (w : World) : (Go.method 276 101 (.agg #[h]) "Kind").run Tryd.prog w = .ok (105, h) w := by kernel_rfl
theorem Tryd.kPtr (w : World) : ((ReflectliteType.abiMethod fun t => (fun a : Nat => Value.int IntKind.u8 (a : Int)) <$> Rtype.kind t) #[.pointer (some ⟨1, 74, none⟩)]).run Tryd.prog w = .ok (.int .u8 22) w := by kernel_rfl
theorem Tryd.kRef (w : World) : ((ReflectliteType.abiMethod fun t => (fun a : Nat => Value.int IntKind.u8 (a : Int)) <$> Rtype.kind t) #[.pointer (some ⟨1, 72, none⟩)]).run Tryd.prog w = .ok (.int .u8 25) w := by kernel_rfl
theorem Tryd.pPtr (a : Addr) (w : World) : (ReflectliteValue.parts (.agg #[.pointer (some ⟨1, 74, none⟩), .pointer (some a), .int .u64 150])).run Tryd.prog w = .ok (some (74, a, 150)) w := by kernel_rfl
theorem Tryd.nPtr (a p : Addr) (W : World) (ha : W.cell? a = some (.pointer (some p))) :
    (ReflectliteValue.method (ReflectliteValue.valueError "reflectlite.Value.IsNil" 0) ReflectliteValue.isNil #[.agg #[.pointer (some ⟨1, 74, none⟩), .pointer (some a), .int .u64 150]]).run Tryd.prog W = .ok (.bool false) W := by
  show (ReflectliteValue.parts (.agg #[.pointer (some ⟨1, 74, none⟩), .pointer (some a), .int .u64 150]) >>= _).run Tryd.prog W = _
  simp only [Sem.run_bind, Tryd.pPtr, Result.andThen]
  simp [ReflectliteValue.isNil, loadVar, isAgg, underlying, Tryd.underlying74, ha, Result.andThen]
theorem Tryd.mElem (h : Value) (w : World) : (Go.method 276 101 (.agg #[h]) "Elem").run Tryd.prog w = .ok (116, .agg #[h]) w := by kernel_rfl
theorem Tryd.mImpl (h : Value) (w : World) : (Go.method 276 101 (.agg #[h]) "Implements").run Tryd.prog w = .ok (117, .agg #[h]) w := by kernel_rfl
theorem Tryd.mAssn (h : Value) (w : World) : (Go.method 276 101 (.agg #[h]) "AssignableTo").run Tryd.prog w = .ok (114, .agg #[h]) w := by kernel_rfl
theorem Tryd.ePtr (w : World) : (ReflectliteType.method ReflectliteType.elem #[.agg #[.pointer (some ⟨1, 74, none⟩)]]).run Tryd.prog w = .ok (.iface 101 (.agg #[.pointer (some ⟨1, 72, none⟩)])) w := by kernel_rfl
theorem Tryd.iRef (w : World) : (ReflectliteType.relation "Implements" ReflectliteType.implements_ #[.agg #[.pointer (some ⟨1, 72, none⟩)], .iface 101 (.agg #[.pointer (some ⟨1, 54, none⟩)])]).run Tryd.prog w = .ok (.bool true) w := by kernel_rfl
theorem Tryd.tRef (v : Value) (w : World) : (ReflectliteType.typeOf #[.iface 72 v]).run Tryd.prog w = .ok (.iface 101 (.agg #[.pointer (some ⟨1, 72, none⟩)])) w := by kernel_rfl
theorem Tryd.aRef (w : World) : (ReflectliteType.relation "AssignableTo" ReflectliteType.assignableTo #[.agg #[.pointer (some ⟨1, 72, none⟩)], .iface 101 (.agg #[.pointer (some ⟨1, 72, none⟩)])]).run Tryd.prog w = .ok (.bool true) w := by kernel_rfl
theorem Tryd.vRef (x : Int) (w : World) : (ReflectliteValue.unpack (.iface 72 (.agg #[.int .i64 x]))).run Tryd.prog w
    = .ok (.agg #[.pointer (some ⟨1, 72, none⟩), .pointer (some ⟨w.heap.size, 0, none⟩), .int .u64 153]) (w.alloc (.cells #[.int .i64 x] 72)) := by kernel_rfl
theorem Tryd.eOf (w : World) : (Rtype.elem? 74).run Tryd.prog w = .ok (some 72) w := by kernel_rfl
theorem Tryd.mk72 (p : Addr) (w : World) : (ReflectliteValue.mk 72 p ReflectliteValue.flagAddr).run Tryd.prog w = .ok (.agg #[.pointer (some ⟨1, 72, none⟩), .pointer (some p), .int .u64 409]) w := by kernel_rfl
theorem Tryd.evPtr (a p : Addr) (W : World) (ha : W.cell? a = some (.pointer (some p))) :
    (ReflectliteValue.method (ReflectliteValue.valueError "reflectlite.Value.Elem" 0) ReflectliteValue.elem #[.agg #[.pointer (some ⟨1, 74, none⟩), .pointer (some a), .int .u64 150]]).run Tryd.prog W
      = .ok (.agg #[.pointer (some ⟨1, 72, none⟩), .pointer (some p), .int .u64 409]) W := by
  show (ReflectliteValue.parts (.agg #[.pointer (some ⟨1, 74, none⟩), .pointer (some a), .int .u64 150]) >>= _).run Tryd.prog W = _
  simp only [Sem.run_bind, Tryd.pPtr, Result.andThen]
  simp [ReflectliteValue.elem, loadVar, isAgg, underlying, Tryd.underlying74, ha, Result.andThen, Tryd.eOf, Tryd.mk72]
theorem Tryd.p72a (a : Addr) (w : World) : (ReflectliteValue.parts (.agg #[.pointer (some ⟨1, 72, none⟩), .pointer (some a), .int .u64 409])).run Tryd.prog w = .ok (some (72, a, 409)) w := by kernel_rfl
theorem Tryd.p72 (a : Addr) (w : World) : (ReflectliteValue.parts (.agg #[.pointer (some ⟨1, 72, none⟩), .pointer (some a), .int .u64 153])).run Tryd.prog w = .ok (some (72, a, 153)) w := by kernel_rfl
theorem Tryd.d72 (w : World) : (Rtype.directlyAssignable 72 72).run Tryd.prog w = .ok true w := by kernel_rfl
theorem Tryd.set72 (ta b : Addr) (x y : Int) (W : World) (hb : W.cell? b = some (.int .i64 x)) (ht : W.cell? ta = some (.int .i64 y)) (hf : W.frozen? ta = false) :
    (ReflectliteValue.set #[.agg #[.pointer (some ⟨1, 72, none⟩), .pointer (some ta), .int .u64 409], .agg #[.pointer (some ⟨1, 72, none⟩), .pointer (some b), .int .u64 153]]).run Tryd.prog W
      = .ok (.tuple #[]) (W.setCell ta (.int .i64 x)) := by
  show (ReflectliteValue.parts (.agg #[.pointer (some ⟨1, 72, none⟩), .pointer (some ta), .int .u64 409]) >>= fun r1 => ReflectliteValue.parts (.agg #[.pointer (some ⟨1, 72, none⟩), .pointer (some b), .int .u64 153]) >>= fun r2 => _).run Tryd.prog W = _
  simp only [Sem.run_bind, Tryd.p72a, Tryd.p72, Result.andThen]
  have hl : (loadCells b 1).run Tryd.prog W = .ok #[.int .i64 x] W := by
    have h0 : Addr.add b 0 = b := by cases b; simp [Addr.add]
    simp [loadCells, loadCellsFrom, h0, hb, Result.andThen]
  simp only [ReflectliteValue.flagAddr, loadVar, isAgg, underlying, storeVar]
  simp [hl, Result.andThen, Tryd.d72, Tryd.underlying72, Value.cells, storeCells, Addr.add]
  rw [run_store Tryd.prog W ta _ _ (by rfl)]
  simp [ht, hf]
end Go.Proofs.YtgackacnlnagmaaDoor
