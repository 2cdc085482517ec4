/- A package's fault is found by errors.As, and its place and number told; nothing wrong is told by noughts. Conditions: the type of errors lies as the initialisation lays it. -/
import Derived.Test.YtepelpmkmhhokaaGreatDoorAvx
import Derived.LaidEql
import Derived.Stop.Asserts
import Derived.RowKitTokens
set_option maxRecDepth 100000
namespace Go.Proofs.YtepelpmkmhhokaaGreatDoor
open Go.RowKit Go.Extern.Stop Go.Stop Go.Extern

theorem as_nil (t : Value) (w : World) :
    Calls Tryz.prog 80 #[.nilIface, t] w fun e w' => e = .returned (.bool false) ∧ w' = w := by
  go_enter Tryz.func80, Tryz.ntmps80
  go_wp2
  go_ret
  exact ⟨rfl, rfl⟩

theorem fvalueOf (t : Addr) (w : World) : (ReflectliteValue.unpack (.iface 160 (.pointer (some t)))).run Tryz.prog w
    = .ok (.agg #[.pointer (some ⟨6, 160, none⟩), .pointer (some ⟨w.heap.size, 0, none⟩), .int .u64 150]) (w.alloc (.cells #[.pointer (some t)] 160)) := by kernel_rfl
theorem ftype (a : Addr) (w : World) : (ReflectliteValue.methodAny (ReflectliteValue.valueError "reflectlite.Value.Type" 0) (fun t _ _ _ => ReflectliteType.toType t) #[.agg #[.pointer (some ⟨6, 160, none⟩), .pointer (some a), .int .u64 150]]).run Tryz.prog w
    = .ok (.iface 131 (.agg #[.pointer (some ⟨6, 160, none⟩)])) w := by kernel_rfl
theorem fmethodKind (h : Value) (w : World) : (Go.method 374 131 (.agg #[h]) "Kind").run Tryz.prog w = .ok (167, h) w := by kernel_rfl
theorem fkind84 (w : World) : ((ReflectliteType.abiMethod fun t => (fun a : Nat => Value.int IntKind.u8 (a : Int)) <$> Rtype.kind t) #[.pointer (some ⟨6, 160, none⟩)]).run Tryz.prog w = .ok (.int .u8 22) w := by kernel_rfl
theorem fkind70 (w : World) : ((ReflectliteType.abiMethod fun t => (fun a : Nat => Value.int IntKind.u8 (a : Int)) <$> Rtype.kind t) #[.pointer (some ⟨6, 158, none⟩)]).run Tryz.prog w = .ok (.int .u8 25) w := by kernel_rfl

theorem rlm (z : Sem Value) (f : TypeId → Addr → Nat → Nat → Sem Value) (v : Value) :
    ReflectliteValue.method z f #[v] = (do match ← ReflectliteValue.parts v with | none => z | some (t, a, fl) => f t a fl (fl % 32)) := rfl
theorem fparts84 (a : Addr) (w : World) : (ReflectliteValue.parts (.agg #[.pointer (some ⟨6, 160, none⟩), .pointer (some a), .int .u64 150])).run Tryz.prog w = .ok (some (160, a, 150)) w := by kernel_rfl
theorem fisNil (a p : Addr) (W : World) (ha : W.cell? a = some (.pointer (some p))) :
    (ReflectliteValue.method (ReflectliteValue.valueError "reflectlite.Value.IsNil" 0) ReflectliteValue.isNil #[.agg #[.pointer (some ⟨6, 160, none⟩), .pointer (some a), .int .u64 150]]).run Tryz.prog W = .ok (.bool false) W := by
  rw [rlm]
  simp only [Sem.run_bind, fparts84, Result.andThen]
  simp [ReflectliteValue.isNil, loadVar, isAgg, underlying, Tryz.underlying160, ha, Result.andThen]

theorem fmethodElem (h : Value) (w : World) : (Go.method 374 131 (.agg #[h]) "Elem").run Tryz.prog w = .ok (174, .agg #[h]) w := by kernel_rfl
theorem fmethodImplements (h : Value) (w : World) : (Go.method 374 131 (.agg #[h]) "Implements").run Tryz.prog w = .ok (175, .agg #[h]) w := by kernel_rfl
theorem fmethodAssignableTo (h : Value) (w : World) : (Go.method 374 131 (.agg #[h]) "AssignableTo").run Tryz.prog w = .ok (172, .agg #[h]) w := by kernel_rfl
theorem felem84 (w : World) : (ReflectliteType.method ReflectliteType.elem #[.agg #[.pointer (some ⟨6, 160, none⟩)]]).run Tryz.prog w = .ok (.iface 131 (.agg #[.pointer (some ⟨6, 158, none⟩)])) w := by kernel_rfl
theorem fimplements (w : World) : (ReflectliteType.relation "Implements" ReflectliteType.implements_ #[.agg #[.pointer (some ⟨6, 158, none⟩)], .iface 131 (.agg #[.pointer (some ⟨6, 63, none⟩)])]).run Tryz.prog w = .ok (.bool true) w := by kernel_rfl
theorem ftypeOf (v : Value) (w : World) : (ReflectliteType.typeOf #[.iface 158 v]).run Tryz.prog w = .ok (.iface 131 (.agg #[.pointer (some ⟨6, 158, none⟩)])) w := by kernel_rfl
theorem fassignable (w : World) : (ReflectliteType.relation "AssignableTo" ReflectliteType.assignableTo #[.agg #[.pointer (some ⟨6, 158, none⟩)], .iface 131 (.agg #[.pointer (some ⟨6, 158, none⟩)])]).run Tryz.prog w = .ok (.bool true) w := by kernel_rfl
theorem fvalueOf80 (a no : Int) (s : ByteArray) (w : World) : (ReflectliteValue.unpack (.iface 158 (.agg #[.int .i64 a, .int .i64 no, .string s]))).run Tryz.prog w
    = .ok (.agg #[.pointer (some ⟨6, 158, none⟩), .pointer (some ⟨w.heap.size, 0, none⟩), .int .u64 153]) (w.alloc (.cells #[.int .i64 a, .int .i64 no, .string s] 158)) := by kernel_rfl

theorem felemOf (w : World) : (Rtype.elem? 160).run Tryz.prog w = .ok (some 158) w := by kernel_rfl
theorem fmk (p : Addr) (w : World) : (ReflectliteValue.mk 158 p ReflectliteValue.flagAddr).run Tryz.prog w = .ok (.agg #[.pointer (some ⟨6, 158, none⟩), .pointer (some p), .int .u64 409]) w := by kernel_rfl
theorem felemV (a p : Addr) (W : World) (ha : W.cell? a = some (.pointer (some p))) :
    (ReflectliteValue.method (ReflectliteValue.valueError "reflectlite.Value.Elem" 0) ReflectliteValue.elem #[.agg #[.pointer (some ⟨6, 160, none⟩), .pointer (some a), .int .u64 150]]).run Tryz.prog W
      = .ok (.agg #[.pointer (some ⟨6, 158, none⟩), .pointer (some p), .int .u64 409]) W := by
  rw [rlm]
  simp only [Sem.run_bind, fparts84, Result.andThen]
  simp [ReflectliteValue.elem, loadVar, isAgg, underlying, Tryz.underlying160, ha, Result.andThen, felemOf, fmk]
theorem rls (v x : Value) : ReflectliteValue.set #[v, x] = (do
    let (some (dst, a, fl), some (src, b, _)) := (← ReflectliteValue.parts v, ← ReflectliteValue.parts x)
      | unsupported (.noEntry "extern/(internal/reflectlite.Value).Set.zeroValue")
    if fl / ReflectliteValue.flagAddr % 2 == 0 then unsupported (.noEntry "extern/(internal/reflectlite.Value).Set.unaddressable")
    let val ← loadVar src b
    if ← Rtype.directlyAssignable dst src then storeVar dst a val
    else if ← Rtype.implements dst src then
      if (← Rtype.kind src) == 20 then
        match val with
        | .nilIface => unsupported (.noEntry "extern/reflectlite: a nil value of one interface type handed on as a value of another")
        | _ => storeVar dst a val
      else storeVar dst a (.iface src val)
    else panicString ("reflectlite.Set: value of type " ++ (← Rtype.spelt src) ++ " is not assignable to type " ++ (← Rtype.spelt dst))
    pure (.tuple #[])) := rfl
theorem fparts80a (a : Addr) (w : World) : (ReflectliteValue.parts (.agg #[.pointer (some ⟨6, 158, none⟩), .pointer (some a), .int .u64 409])).run Tryz.prog w = .ok (some (158, a, 409)) w := by kernel_rfl
theorem fparts80 (a : Addr) (w : World) : (ReflectliteValue.parts (.agg #[.pointer (some ⟨6, 158, none⟩), .pointer (some a), .int .u64 153])).run Tryz.prog w = .ok (some (158, a, 153)) w := by kernel_rfl
theorem fdirect (w : World) : (Rtype.directlyAssignable 158 158).run Tryz.prog w = .ok true w := by kernel_rfl
theorem fsize (w : World) : (sizeOf 158).run Tryz.prog w = .ok 3 w := by kernel_rfl
theorem fload (b : Nat) (a no : Int) (s : ByteArray) (W : World) (hb : W.heap[b]? = some (.cells #[.int .i64 a, .int .i64 no, .string s] 158 (0, 0))) :
    (loadVar 158 ⟨b, 0, none⟩).run Tryz.prog W = .ok (.agg #[.int .i64 a, .int .i64 no, .string s]) W := by
  have c0 : W.cell? ⟨b, 0, none⟩ = some (.int .i64 a) := cell_of_row _ _ 0 _ _ _ hb
  have c1 : W.cell? ⟨b, 1, none⟩ = some (.int .i64 no) := cell_of_row _ _ 1 _ _ _ hb
  have c2 : W.cell? ⟨b, 2, none⟩ = some (.string s) := cell_of_row _ _ 2 _ _ _ hb
  have h1 := Tryz.isAgg158
  have h2 := Tryz.sizeOf158
  simp [loadVar, h1, h2, Result.andThen, go_sem, c0, c1, c2]
theorem fset (t b : Nat) (a no : Int) (s : ByteArray) (x0 x1 x2 : Value) (W : World) (hb : W.heap[b]? = some (.cells #[.int .i64 a, .int .i64 no, .string s] 158 (0, 0))) (ht : W.heap[t]? = some (.cells #[x0, x1, x2] 158 (0, 0))) :
    (ReflectliteValue.set #[.agg #[.pointer (some ⟨6, 158, none⟩), .pointer (some ⟨t, 0, none⟩), .int .u64 409], .agg #[.pointer (some ⟨6, 158, none⟩), .pointer (some ⟨b, 0, none⟩), .int .u64 153]]).run Tryz.prog W
      = .ok (.tuple #[]) (((W.setCell ⟨t, 0, none⟩ (.int .i64 a)).setCell ⟨t, 1, none⟩ (.int .i64 no)).setCell ⟨t, 2, none⟩ (.string s)) := by
  have c0 : W.cell? ⟨t, 0, none⟩ = some x0 := cell_of_row _ _ 0 _ _ _ ht
  have c1 : W.cell? ⟨t, 1, none⟩ = some x1 := cell_of_row _ _ 1 _ _ _ ht
  have c2 : W.cell? ⟨t, 2, none⟩ = some x2 := cell_of_row _ _ 2 _ _ _ ht
  have f0 := frozen_of_row _ _ 0 _ _ ht
  have f1 := frozen_of_row _ _ 1 _ _ ht
  have f2 := frozen_of_row _ _ 2 _ _ ht
  have hl := fload b a no s W hb
  rw [rls]
  simp only [Sem.run_bind, fparts80a, fparts80, Result.andThen]
  simp [ReflectliteValue.flagAddr, hl, Result.andThen, fdirect, storeVar, Value.cells, storeCells, Addr.add]
  have g1 := heap_setCell_same W t 0 _ _ (.int .i64 a) ht
  have g2 := heap_setCell_same _ t 1 _ _ (.int .i64 no) g1
  have s0 : (store ⟨t, 0, none⟩ (.int .i64 a)).run Tryz.prog W = .ok () (W.setCell ⟨t, 0, none⟩ (.int .i64 a)) := by
    rw [run_store Tryz.prog W ⟨t, 0, none⟩ _ _ (by rfl)]
    simp [c0, f0]
  have s1 : (store ⟨t, 1, none⟩ (.int .i64 no)).run Tryz.prog (W.setCell ⟨t, 0, none⟩ (.int .i64 a)) = .ok () ((W.setCell ⟨t, 0, none⟩ (.int .i64 a)).setCell ⟨t, 1, none⟩ (.int .i64 no)) := by
    rw [run_store Tryz.prog _ ⟨t, 1, none⟩ _ _ (by rfl)]
    rw [cell_of_row _ _ 1 _ _ _ g1, frozen_of_row _ _ 1 _ _ g1]
    rfl
  have s2 : (store ⟨t, 2, none⟩ (.string s)).run Tryz.prog ((W.setCell ⟨t, 0, none⟩ (.int .i64 a)).setCell ⟨t, 1, none⟩ (.int .i64 no)) = .ok () (((W.setCell ⟨t, 0, none⟩ (.int .i64 a)).setCell ⟨t, 1, none⟩ (.int .i64 no)).setCell ⟨t, 2, none⟩ (.string s)) := by
    rw [run_store Tryz.prog _ ⟨t, 2, none⟩ _ _ (by rfl)]
    rw [cell_of_row _ _ 2 _ _ _ g2, frozen_of_row _ _ 2 _ _ g2]
    rfl
  simp only [s0, s1, s2]
set_option maxHeartbeats 4000000 in
theorem as_hit (a no : Int) (s : ByteArray) (t : Nat) (x0 x1 x2 : Value) (w : World) (hg : w.cell? ⟨3, 0, none⟩ = some (.iface 131 (.agg #[.pointer (some ⟨6, 63, none⟩)]))) (ht : w.heap[t]? = some (.cells #[x0, x1, x2] 158 (0, 0))) :
    Calls Tryz.prog 80 #[.iface 158 (.agg #[.int .i64 a, .int .i64 no, .string s]), .iface 160 (.pointer (some ⟨t, 0, none⟩))] w fun ev w' => ev = .returned (.bool true) ∧ w' = (((((((w.alloc (.cells #[.pointer (some ⟨t, 0, none⟩)] 160)).alloc (.cells #[.pointer (some ⟨6, 160, none⟩), .pointer (some ⟨w.heap.size, 0, none⟩), .int .u64 150] 173)).alloc (.cells #[.pointer (some ⟨6, 160, none⟩), .pointer (some ⟨w.heap.size, 0, none⟩), .int .u64 150] 173)).alloc (.cells #[.int .i64 a, .int .i64 no, .string s] 158)).setCell ⟨t, 0, none⟩ (.int .i64 a)).setCell ⟨t, 1, none⟩ (.int .i64 no)).setCell ⟨t, 2, none⟩ (.string s)) := by
  have h6 := @run_callFunc_extern Tryz.prog 91 _ (fun args => ReflectliteValue.unpack (args.getD 0 (.tuple #[]))) Tryz.func91 (by kernel_rfl) (by kernel_rfl) (by kernel_rfl) (by kernel_rfl)
  have h7 := @run_callFunc_extern Tryz.prog 92 _ (ReflectliteValue.methodAny (ReflectliteValue.valueError "reflectlite.Value.Type" 0) (fun t _ _ _ => ReflectliteType.toType t)) Tryz.func92 (by kernel_rfl) (by kernel_rfl) (by kernel_rfl) (by kernel_rfl)
  have h8 := @run_callFunc_extern Tryz.prog 93 _ (ReflectliteValue.method (ReflectliteValue.valueError "reflectlite.Value.IsNil" 0) ReflectliteValue.isNil) Tryz.func93 (by kernel_rfl) (by kernel_rfl) (by kernel_rfl) (by kernel_rfl)
  have h27 := @run_callFunc_extern Tryz.prog 167 _ (ReflectliteType.abiMethod fun t => do pure (.int .u8 (← Rtype.kind t))) Tryz.func167 (by kernel_rfl) (by kernel_rfl) (by kernel_rfl) (by kernel_rfl)
  have h37 := @run_callFunc_extern Tryz.prog 174 _ (ReflectliteType.method ReflectliteType.elem) Tryz.func174 (by kernel_rfl) (by kernel_rfl) (by kernel_rfl) (by kernel_rfl)
  have h38 := @run_callFunc_extern Tryz.prog 175 _ (ReflectliteType.relation "Implements" ReflectliteType.implements_) Tryz.func175 (by kernel_rfl) (by kernel_rfl) (by kernel_rfl) (by kernel_rfl)
  have h10 := @run_callFunc_extern Tryz.prog 45 _ ReflectliteType.typeOf Tryz.func45 (by kernel_rfl) (by kernel_rfl) (by kernel_rfl) (by kernel_rfl)
  have h35 := @run_callFunc_extern Tryz.prog 172 _ (ReflectliteType.relation "AssignableTo" ReflectliteType.assignableTo) Tryz.func172 (by kernel_rfl) (by kernel_rfl) (by kernel_rfl) (by kernel_rfl)
  have h11 := @run_callFunc_extern Tryz.prog 108 _ (ReflectliteValue.method (ReflectliteValue.valueError "reflectlite.Value.Elem" 0) ReflectliteValue.elem) Tryz.func108 (by kernel_rfl) (by kernel_rfl) (by kernel_rfl) (by kernel_rfl)
  have h12 := @run_callFunc_extern Tryz.prog 109 _ ReflectliteValue.set Tryz.func109 (by kernel_rfl) (by kernel_rfl) (by kernel_rfl) (by kernel_rfl)
  have tO := ftypeOf
  have mA := fmethodAssignableTo
  have a25 := fassignable
  have v25 := fvalueOf80
  have f6 := fvalueOf
  have f7 := ftype
  have mK := fmethodKind
  have mE := fmethodElem
  have mI := fmethodImplements
  have k27 := fkind84
  have k25 := fkind70
  have e27 := felem84
  have i25 := fimplements
  have htl : t < w.heap.size := (Array.getElem?_eq_some_iff.1 ht).1
  have n8 := fisNil ⟨w.heap.size, 0, none⟩ ⟨t, 0, none⟩ ((w.alloc (.cells #[.pointer (some ⟨t, 0, none⟩)] 160)).alloc (.cells #[.pointer (some ⟨6, 160, none⟩), .pointer (some ⟨w.heap.size, 0, none⟩), .int .u64 150] 173)) (by simp)
  have hlt : 3 < w.heap.size := World.block_lt_of_cell? w ⟨3, 0, none⟩ (by rw [hg])
  have hg2 : ((w.alloc (.cells #[.pointer (some ⟨t, 0, none⟩)] 160)).alloc (.cells #[.pointer (some ⟨6, 160, none⟩), .pointer (some ⟨w.heap.size, 0, none⟩), .int .u64 150] 173)).cell? ⟨3, 0, none⟩ = some (.iface 131 (.agg #[.pointer (some ⟨6, 63, none⟩)])) := by
    rw [World.cell?_alloc_lt _ _ ⟨3, 0, none⟩ (by first | (simp; done) | (simp; omega)), World.cell?_alloc_lt _ _ ⟨3, 0, none⟩ hlt]; exact hg
  have el := felemV ⟨w.heap.size, 0, none⟩ ⟨t, 0, none⟩ (((w.alloc (.cells #[.pointer (some ⟨t, 0, none⟩)] 160)).alloc (.cells #[.pointer (some ⟨6, 160, none⟩), .pointer (some ⟨w.heap.size, 0, none⟩), .int .u64 150] 173)).alloc (.cells #[.pointer (some ⟨6, 160, none⟩), .pointer (some ⟨w.heap.size, 0, none⟩), .int .u64 150] 173)) (by rw [World.cell?_alloc_lt _ _ ⟨w.heap.size, 0, none⟩ (by simp; omega)]; simp)
  have st := fset t (w.heap.size + 1 + 1 + 1) a no s x0 x1 x2 ((((w.alloc (.cells #[.pointer (some ⟨t, 0, none⟩)] 160)).alloc (.cells #[.pointer (some ⟨6, 160, none⟩), .pointer (some ⟨w.heap.size, 0, none⟩), .int .u64 150] 173)).alloc (.cells #[.pointer (some ⟨6, 160, none⟩), .pointer (some ⟨w.heap.size, 0, none⟩), .int .u64 150] 173)).alloc (.cells #[.int .i64 a, .int .i64 no, .string s] 158))
    (by
      have h := heap_alloc_new (((w.alloc (.cells #[.pointer (some ⟨t, 0, none⟩)] 160)).alloc (.cells #[.pointer (some ⟨6, 160, none⟩), .pointer (some ⟨w.heap.size, 0, none⟩), .int .u64 150] 173)).alloc (.cells #[.pointer (some ⟨6, 160, none⟩), .pointer (some ⟨w.heap.size, 0, none⟩), .int .u64 150] 173)) (.cells #[.int .i64 a, .int .i64 no, .string s] 158)
      rwa [World.size_alloc, World.size_alloc, World.size_alloc] at h)
    (by
      rw [Below.heap_alloc _ _ _ (by simp; omega), Below.heap_alloc _ _ _ (by simp; omega), Below.heap_alloc _ _ _ (by simp; omega), Below.heap_alloc _ _ _ htl]
      exact ht)
  go_enter Tryz.func80, Tryz.ntmps80
  go_wp2
  refine wp_loop_rounds 1 ?_
  rw [rounds_succ]
  go_wp2
  go_ret
  exact ⟨rfl, rfl⟩
end Go.Proofs.YtepelpmkmhhokaaGreatDoor
