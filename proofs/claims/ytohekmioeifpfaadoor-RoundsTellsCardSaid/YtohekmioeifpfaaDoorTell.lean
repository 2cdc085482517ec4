/- What calls of the package's functions are known to tell, in any world that is laid. Conditions: those of each rule. -/
import Derived.Test.YtohekmioeifpfaaDoorDoor
import Derived.Test.YtohekmioeifpfaaDoorShown
import Derived.Test.YtohekmioeifpfaaDoorLawLib
import Derived.Deep.QuietTactic
import Derived.BigQuiet
import Derived.WalkKit
import Derived.WalkLawsBesides
import Derived.WalkSpells
import Derived.Outline
import Derived.Lib.Hide
namespace Go.Proofs.YtohekmioeifpfaaDoor
open Go.ChangeShapes Go.WideShapes Go.ChangeAt Go.RowKit
open Go.ChangeMaps (open_string shut_string)
open Rd

/-- what a call of the round is known to tell, in any world -/
def Tells13 (x0 x1 x2 x3 x4 x5 x6 x7 i x t0 t1 t2 t3 t4 t5 t6 t7 e : Int) : Prop :=
  ∀ (w : World), (∃ (a0 a1 : Addr) (B : Nat), Env a0 a1 B w) → Calls Tryd.prog 13 #[.agg #[.int .i64 x0, .int .i64 x1, .int .i64 x2, .int .i64 x3, .int .i64 x4, .int .i64 x5, .int .i64 x6, .int .i64 x7], .int .i64 i, .int .i64 x] w fun en w' => en = .returned (.tuple #[.agg #[.int .i64 t0, .int .i64 t1, .int .i64 t2, .int .i64 t3, .int .i64 t4, .int .i64 t5, .int .i64 t6, .int .i64 t7], .int .i64 e]) ∧ Below w.heap.size w w'
/-- what a call of Bytes is known to tell, in any world -/
def Tells17 (x0 x1 x2 x3 x4 x5 x6 x7 : Int) (a : ByteArray) (e : Int) : Prop :=
  ∀ (w : World), (∃ (a0 a1 : Addr) (B : Nat), Env a0 a1 B w) → Calls Tryd.prog 17 #[.agg #[.int .i64 x0, .int .i64 x1, .int .i64 x2, .int .i64 x3, .int .i64 x4, .int .i64 x5, .int .i64 x6, .int .i64 x7]] w fun en w' => en = .returned (.tuple #[.string a, .int .i64 e]) ∧ Below w.heap.size w w'
theorem tells_ok (s : St) (i : Int) (hi : 0 ≤ i ∧ i < 64) (x : BitVec 32) : Tells13 (U s.a) (U s.b) (U s.c) (U s.d) (U s.e) (U s.f) (U s.g) (U s.h) i (U x) (U (s.step i.toNat x).a) (U (s.step i.toNat x).b) (U (s.step i.toNat x).c) (U (s.step i.toNat x).d) (U (s.step i.toNat x).e) (U (s.step i.toNat x).f) (U (s.step i.toNat x).g) (U (s.step i.toNat x).h) 0 := by
  rintro w ⟨a0, a1, B, E⟩
  have h := Round_ok s i.toNat (by omega) x w E
  rw [Int.toNat_of_nonneg hi.1] at h
  exact h
theorem tells_bad (s : St) (i x : Int) (h : ¬ (0 ≤ i ∧ i < 64 ∧ 0 ≤ x ∧ x ≤ 4294967295)) : Tells13 (U s.a) (U s.b) (U s.c) (U s.d) (U s.e) (U s.f) (U s.g) (U s.h) i x 0 0 0 0 0 0 0 0 11 := by
  rintro w ⟨a0, a1, B, E⟩
  exact Round_badRound s i x h w E
end Go.Proofs.YtohekmioeifpfaaDoor
