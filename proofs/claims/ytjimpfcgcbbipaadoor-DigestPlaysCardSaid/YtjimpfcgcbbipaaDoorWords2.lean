/- A word's four bytes, from its shifts, and a state's bytes. Conditions: none; nothing of the program is run here. -/
import Derived.Test.YtjimpfcgcbbipaaDoorWords
namespace Go.Proofs.YtjimpfcgcbbipaaDoor
namespace Rd
/-- the lowest byte -/
def lo8 (x : BitVec 32) : UInt8 := UInt8.ofNat x.toNat
theorem mod_lo8 (x : BitVec 32) : U x % (256 : Int) = ((lo8 x).toNat : Int) := by
  unfold U lo8
  rw [UInt8.toNat_ofNat']; simp
theorem shr24 (x : BitVec 32) : U x / (16777216 : Int) = U (x >>> 24) := by have h := shr x 24; simpa using h
theorem shr16 (x : BitVec 32) : U x / (65536 : Int) = U (x >>> 16) := by have h := shr x 16; simpa using h
theorem shr8 (x : BitVec 32) : U x / (256 : Int) = U (x >>> 8) := by have h := shr x 8; simpa using h
/-- a word's bytes -/
def by4 (x : BitVec 32) : List UInt8 := [lo8 (x >>> 24), lo8 (x >>> 16), lo8 (x >>> 8), lo8 x]
def St.w (s : St) : Nat → BitVec 32
  | 0 => s.a | 1 => s.b | 2 => s.c | 3 => s.d | 4 => s.e | 5 => s.f | 6 => s.g | _ => s.h
/-- the bytes of a state's first k words -/
def St.by (s : St) : Nat → List UInt8
  | 0 => []
  | k + 1 => St.by s k ++ by4 (s.w k)
end Rd
end Go.Proofs.YtjimpfcgcbbipaaDoor
