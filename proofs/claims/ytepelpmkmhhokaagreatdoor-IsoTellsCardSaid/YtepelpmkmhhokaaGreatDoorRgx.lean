/- The surroundings of graphs: the library's tables of texts, and the type of errors. Conditions: none. Which scalars are right is told as the document tells it. Conditions: the library's tables of texts lie as they are laid; the text is not too long. errors.Is finds a walk's end by its pointer. Conditions: both ends lie in rows. -/
import Derived.Test.YtepelpmkmhhokaaGreatDoorRows
import Derived.Shelf.Unicode.DecodeSlow
import Derived.Test.YtepelpmkmhhokaaGreatDoorArx
import Derived.Test.YtepelpmkmhhokaaGreatDoorClx
import Derived.WalkKit
import Derived.LaidEql
import Derived.Stop.Asserts
import Derived.RowKitTokens
set_option maxRecDepth 100000
namespace Go.Proofs.YtepelpmkmhhokaaGreatDoor
open Go.RowKit Go.Shelf
/-- a thing that a walk ends with: it lies in a row of its own -/
def End1 (w : World) (g : Nat) (a : Addr) : Prop := w.cell? ⟨g, 0, none⟩ = some (.iface 242 (.pointer (some a))) ∧ ∃ c t, w.heap[a.block]? = some (.cells c t (0, 0))
/-- the three that a walk ends with, each another one -/
structure Is3 (w : World) (a0 a1 a2 : Addr) : Prop where
  all : End1 w 0 a0
  unfit : End1 w 1 a1
  other : End1 w 2 a2
  ne1 : a1 ≠ a0
  ne2 : a2 ≠ a0
def Ends (w : World) : Prop := ∃ a0 a1 a2, Is3 w a0 a1 a2
theorem End1.below {w w' : World} {g : Nat} {a : Addr} (h : End1 w g a) (hb : Below w.heap.size w w') : End1 w' g a := by
  obtain ⟨h1, c, t, h2⟩ := h
  exact ⟨(hb.cell (p := ⟨g, 0, none⟩) (World.block_lt_of_cell? w ⟨g, 0, none⟩ (by rw [h1]))).trans h1, c, t, (hb.block _ (Array.getElem?_eq_some_iff.1 h2).1).trans h2⟩
theorem Is3.below {w w' : World} {a0 a1 a2 : Addr} (h : Is3 w a0 a1 a2) (hb : Below w.heap.size w w') : Is3 w' a0 a1 a2 := ⟨h.all.below hb, h.unfit.below hb, h.other.below hb, h.ne1, h.ne2⟩
structure Env (w : World) : Prop where
  tabs : Go.Lib.Utf8Tabs 4 5 w
  err : w.cell? ⟨3, 0, none⟩ = some (.iface 131 (.agg #[.pointer (some ⟨6, 63, none⟩)]))
  own : Ends w
theorem Env.below {w w' : World} (h : Env w) (hb : Below w.heap.size w w') : Env w' :=
  ⟨Utf8Tabs_below h.tabs hb, (hb.cell (p := ⟨3, 0, none⟩) (World.block_lt_of_cell? w ⟨3, 0, none⟩ (by rw [h.err]))).trans h.err, let ⟨a0, a1, a2, h3⟩ := h.own; ⟨a0, a1, a2, h3.below hb⟩⟩
end Go.Proofs.YtepelpmkmhhokaaGreatDoor

set_option maxRecDepth 100000
namespace Go.Proofs.YtepelpmkmhhokaaGreatDoor
open Go.RowKit Go.Shelf
open Scs
theorem right_any (s : ByteArray) (hs : s.size ≤ 1099511627776) (w : World) (E : Env w) : Calls Tryz.prog 145 #[.string s] w fun e w' => e = .returned (.bool (Go.Lib.validD s.data.toList)) ∧ Below w.heap.size w w' := by
  have HE := Lib.hid E
  clear E
  go_enter Tryz.func145, Tryz.ntmps145
  go_wp2_with (go_at_call 150; refine (Tryz.utf8_ValidString s _ (by omega) HE.out.tabs).mono ?_; rintro e w' ⟨rfl, hb⟩)
  go_ret
  exact ⟨rfl, hb⟩
def rightR (k n : Int) (l : List UInt8) : Bool :=
  if (k == 0) = true then (if n = 0 then l.isEmpty else false)
  else if (k == 1) = true then (if n = 0 then l.isEmpty else if n = 1 then l.isEmpty else false)
  else if (k == 2) = true then (if -999999999999999 ≤ n then (if n ≤ 999999999999999 then l.isEmpty else false) else false)
  else if (k == 3) = true then (if n = 0 then Go.Lib.validD l else false) else false
set_option maxHeartbeats 4000000 in
theorem Right_any (k n : Int) (s : ByteArray) (hs : s.size ≤ 1099511627776) (w : World) (E : Env w) :
    Calls Tryz.prog 132 #[.agg #[.int .i64 k, .int .i64 n, .string s]] w fun e w' => e = .returned (.bool (rightR k n s.data.toList)) ∧ Below w.heap.size w w' := by
  by_cases h0 : n = 0
  all_goals
    try subst h0
    first
      | have hR := right_any s hs _ (E.below ((Below.refl _ _).alloc (Nat.le_refl _) (.cells #[.int .i64 k, .int .i64 0, .string s] 48)))
      | skip
    have HR := Lib.hid hR
    have HE := Lib.hid E
    obtain ⟨l, hl⟩ : ∃ l, s.data.toList = l := ⟨_, rfl⟩
    have hle : s.toList.isEmpty = l.isEmpty := by rw [ByteArray.toList_eq, hl]
    rw [hl] at HR ⊢
    clear hR E hl
    go_enter Tryz.func132, Tryz.ntmps132
    go_wp2_with (go_at_call 145; refine HR.out.mono ?_; rintro e w1 ⟨rfl, hb1⟩; have HB1 := Lib.hid hb1; clear hb1)
    all_goals
      go_ret
      first
        | (refine ⟨ret_bool ?_, (Below.refl _ _).alloc (Nat.le_refl _) _⟩; unfold rightR; simp [*]; done)
        | (refine ⟨ret_bool ?_, (Below.refl _ _).alloc (Nat.le_refl _) _⟩; unfold rightR; simp [*]; omega)
        | (refine ⟨ret_bool ?_, ((Below.refl _ w).alloc (Nat.le_refl _) _).trans (HB1.out.mono (by simp))⟩; unfold rightR; simp [*]; done)
def rightS (x : Sc) : Bool := rightR x.1 x.2.1 x.2.2.data.toList
end Go.Proofs.YtepelpmkmhhokaaGreatDoor

set_option maxRecDepth 100000
namespace Go.Proofs.YtepelpmkmhhokaaGreatDoor
open Go.RowKit Go.Extern.Stop Go.Stop Go.Extern
theorem isTypeOf (v : Value) (w : World) : (Extern.ReflectliteType.typeOf #[.iface 242 v]).run Tryz.prog w = .ok (.iface 131 (.agg #[.pointer (some ⟨6, 242, none⟩)])) w := by kernel_rfl
theorem isComparable (w : World) : ((Extern.ReflectliteType.method fun t => do Rtype.noPackHeld "Comparable" t; (fun a => Value.bool a.comparable) <$> typeInfo t) #[.agg #[.pointer (some ⟨6, 242, none⟩)]]).run Tryz.prog w = .ok (.bool true) w := by kernel_rfl
theorem isMethodComparable (v : Value) (w : World) : (Go.method 374 131 v "Comparable").run Tryz.prog w = .ok (173, v) w := by kernel_rfl
theorem isComp : (Tryz.prog.info? 242).map (·.comparable) = some true := by kernel_rfl
theorem isSize : (Tryz.prog.info? 262).map (·.size) = some 1 := by kernel_rfl
theorem noIsE (v : Value) (xT : TypeId) (w : World) : (Instr.typeAssert (.iface 242 v) xT 133 true).run Tryz.prog w = .ok (.tuple #[.nilIface, .bool false]) w := run_typeAssert_lacksB Tryz.underlying133 (by kernel_rfl) (by kernel_rfl) v xT w
theorem noUnwrapE (v : Value) (xT : TypeId) (w : World) : (Instr.typeAssert (.iface 242 v) xT 136 true).run Tryz.prog w = .ok (.tuple #[.nilIface, .bool false]) w := run_typeAssert_lacksB Tryz.underlying136 (by kernel_rfl) (by kernel_rfl) v xT w
theorem noUnwrapsE (v : Value) (xT : TypeId) (w : World) : (Instr.typeAssert (.iface 242 v) xT 138 true).run Tryz.prog w = .ok (.tuple #[.nilIface, .bool false]) w := run_typeAssert_lacksB Tryz.underlying138 (by kernel_rfl) (by kernel_rfl) v xT w
theorem eq_ends (w : World) {a b : Addr} {ca cb : Array Value} {ta tb : TypeId} (ha : w.heap[a.block]? = some (.cells ca ta (0, 0))) (hb : w.heap[b.block]? = some (.cells cb tb (0, 0))) :
    (binOp .eql 63 (.iface 242 (.pointer (some a))) (.iface 242 (.pointer (some b)))).run Tryz.prog w = .ok (.bool (decide (a = b))) w := by
  obtain ⟨i, hi, hcmp⟩ := Option.map_eq_some_iff.1 isComp
  obtain ⟨j, hj, hjs⟩ := Option.map_eq_some_iff.1 isSize
  by_cases hab : a = b
  · subst hab
    rw [decide_eq_true rfl]
    exact run_eql_iface_ptr_same (P := Tryz.prog) w a Tryz.underlying63 Tryz.underlying242 hi hcmp hj
  · rw [decide_eq_false hab]
    exact run_eql_iface_ptr_other (P := Tryz.prog) w Tryz.underlying63 Tryz.underlying242 hi hcmp hj (by rw [hjs]; decide) hab ha hb
theorem is46_any (w : World) {a b : Addr} {ca cb : Array Value} {ta tb : TypeId} (ha : w.heap[a.block]? = some (.cells ca ta (0, 0))) (hb : w.heap[b.block]? = some (.cells cb tb (0, 0))) :
    Calls Tryz.prog 46 #[.iface 242 (.pointer (some a)), .iface 242 (.pointer (some b)), .bool true] w fun e w' => e = .returned (.bool (decide (a = b))) ∧ w' = w := by
  have nE := noIsE
  have uE := noUnwrapE
  have vE := noUnwrapsE
  have heq := eq_ends w ha hb
  obtain ⟨r, hr⟩ : ∃ r, decide (a = b) = r := ⟨_, rfl⟩
  rw [hr] at heq ⊢
  clear hr
  cases r
  · go_enter Tryz.func46, Tryz.ntmps46
    go_wp2
    refine wp_loop_rounds 1 ?_
    rw [rounds_succ]
    go_wp2
    go_ret
    exact ⟨rfl, rfl⟩
  · go_enter Tryz.func46, Tryz.ntmps46
    go_wp2
    refine wp_loop_rounds 1 ?_
    rw [rounds_succ]
    go_wp2
    go_ret
    exact ⟨rfl, rfl⟩
theorem Is_any (w : World) {a b : Addr} {ca cb : Array Value} {ta tb : TypeId} (ha : w.heap[a.block]? = some (.cells ca ta (0, 0))) (hb : w.heap[b.block]? = some (.cells cb tb (0, 0))) :
    Calls Tryz.prog 26 #[.iface 242 (.pointer (some a)), .iface 242 (.pointer (some b))] w fun e w' => e = .returned (.bool (decide (a = b))) ∧ w' = w := by
  have h10 := @run_callFunc_extern Tryz.prog 45 _ ReflectliteType.typeOf Tryz.func45 (by kernel_rfl) (by kernel_rfl) (by kernel_rfl) (by kernel_rfl)
  have h27 := @run_callFunc_extern Tryz.prog 173 _ (ReflectliteType.method fun t => do Rtype.noPackHeld "Comparable" t; pure (.bool (← typeInfo t).comparable)) Tryz.func173 (by kernel_rfl) (by kernel_rfl) (by kernel_rfl) (by kernel_rfl)
  have tO := isTypeOf
  have tC := isComparable
  have tM := isMethodComparable
  have HI := Lib.hid (is46_any w ha hb)
  clear ha hb
  go_enter Tryz.func26, Tryz.ntmps26
  go_wp2_with fail
  refine HI.out.mono ?_
  rintro e w' ⟨rfl, rfl⟩
  go_wp2_with fail
  go_ret
  exact ⟨rfl, rfl⟩
end Go.Proofs.YtepelpmkmhhokaaGreatDoor
