/- The arithmetic of thirty-two-bit words, as the program's numbers and as bit vectors, and the rounds of a block over bit vectors: what each of the program's expressions over words makes. Conditions: numbers are those of words where a rule says so; nothing of the program is run here. -/
import Derived.WalkKit
namespace Go.Proofs.YtjimpfcgcbbipaaDoor
namespace Rd

/-- a word's number -/
def U (x : BitVec 32) : Int := (x.toNat : Int)

theorem U_nonneg (x : BitVec 32) : 0 ≤ U x := by unfold U; omega
theorem U_lt (x : BitVec 32) : U x < 4294967296 := by unfold U; have := x.isLt; omega
theorem U_inj {x y : BitVec 32} (h : U x = U y) : x = y := by
  unfold U at h; exact BitVec.eq_of_toNat_eq (by omega)

theorem wrap_u32 (n : Int) : IntKind.u32.wrap n = n % 4294967296 := by simp [IntKind.wrap, IntKind.bits, IntKind.signed]

theorem ofInt_U (x : BitVec 32) : BitVec.ofInt 32 (U x) = x := by
  unfold U
  rw [BitVec.ofInt_natCast]; simp

theorem wrap_ofInt (n : Int) : IntKind.u32.wrap n = U (BitVec.ofInt 32 n) := by
  rw [wrap_u32]; unfold U; rw [BitVec.toNat_ofInt]; omega

theorem wrap_U (x : BitVec 32) : IntKind.u32.wrap (U x) = U x := by rw [wrap_ofInt, ofInt_U]

theorem wrap_add (x y : BitVec 32) : IntKind.u32.wrap (U x + U y) = U (x + y) := by
  rw [wrap_ofInt, BitVec.ofInt_add, ofInt_U, ofInt_U]

theorem bits_and (x y : BitVec 32) : bits .and .u32 (U x) (U y) = U (x &&& y) := by
  show IntKind.u32.wrap ((BitVec.ofInt 32 (U x) &&& BitVec.ofInt 32 (U y)).toNat : Int) = _
  rw [ofInt_U, ofInt_U]; exact wrap_U _
theorem bits_or (x y : BitVec 32) : bits .or .u32 (U x) (U y) = U (x ||| y) := by
  show IntKind.u32.wrap ((BitVec.ofInt 32 (U x) ||| BitVec.ofInt 32 (U y)).toNat : Int) = _
  rw [ofInt_U, ofInt_U]; exact wrap_U _
theorem bits_xor (x y : BitVec 32) : bits .xor .u32 (U x) (U y) = U (x ^^^ y) := by
  show IntKind.u32.wrap ((BitVec.ofInt 32 (U x) ^^^ BitVec.ofInt 32 (U y)).toNat : Int) = _
  rw [ofInt_U, ofInt_U]; exact wrap_U _
theorem bits_not (x : BitVec 32) : bits .xor .u32 4294967295 (U x) = U (~~~ x) := by
  show IntKind.u32.wrap ((BitVec.ofInt 32 4294967295 ^^^ BitVec.ofInt 32 (U x)).toNat : Int) = _
  rw [ofInt_U, show BitVec.ofInt 32 4294967295 = BitVec.allOnes 32 from by decide, BitVec.allOnes_xor]; exact wrap_U _
theorem bits_not' (x : BitVec 32) : bits .xor .u32 IntKind.u32.max (U x) = U (~~~ x) := bits_not x
theorem bits_xor0 (x : BitVec 32) : bits .xor .u32 0 (U x) = U x := by
  have h : (0 : Int) = U 0#32 := rfl
  rw [h, bits_xor]; simp

theorem shr (x : BitVec 32) (n : Nat) : U x / 2 ^ n = U (x >>> n) := by
  unfold U
  rw [BitVec.toNat_ushiftRight, Nat.shiftRight_eq_div_pow]; simp
theorem shl (x : BitVec 32) (n : Nat) : IntKind.u32.wrap (U x * 2 ^ n) = U (x <<< n) := by
  rw [wrap_u32]; unfold U
  rw [BitVec.toNat_shiftLeft, Nat.shiftLeft_eq]
  simp

theorem rotr_eq (x : BitVec 32) (n : Nat) (h1 : 1 ≤ n) (h2 : n ≤ 31) :
    bits .or .u32 (IntKind.u32.wrap (U x * 2 ^ (32 - n))) (U x / 2 ^ n) = U (x.rotateRight n) := by
  rw [shl, shr, bits_or, BitVec.rotateRight_def, BitVec.or_comm]
  have : n % 32 = n := by omega
  rw [this]

theorem and31 (n : Nat) (h1 : 1 ≤ n) (h2 : n ≤ 31) : bits .and .u64 (IntKind.u64.wrap (-(n : Int))) 31 = 32 - (n : Int) := by
  have : n = 1 ∨ n = 2 ∨ n = 3 ∨ n = 4 ∨ n = 5 ∨ n = 6 ∨ n = 7 ∨ n = 8 ∨ n = 9 ∨ n = 10 ∨ n = 11 ∨ n = 12 ∨ n = 13 ∨ n = 14 ∨ n = 15 ∨ n = 16 ∨ n = 17 ∨ n = 18 ∨ n = 19 ∨ n = 20 ∨ n = 21 ∨ n = 22 ∨ n = 23 ∨ n = 24 ∨ n = 25 ∨ n = 26 ∨ n = 27 ∨ n = 28 ∨ n = 29 ∨ n = 30 ∨ n = 31 := by omega
  rcases this with rfl | rfl | rfl | rfl | rfl | rfl | rfl | rfl | rfl | rfl | rfl | rfl | rfl | rfl | rfl | rfl | rfl | rfl | rfl | rfl | rfl | rfl | rfl | rfl | rfl | rfl | rfl | rfl | rfl | rfl | rfl <;> decide +kernel

theorem wrap64_U (x : BitVec 32) : IntKind.i64.wrap (U x) = U x := by
  have h1 := U_nonneg x; have h2 := U_lt x
  simp [IntKind.wrap, IntKind.bits, IntKind.signed]; omega

theorem mod_add (x y : BitVec 32) : (U x + U y) % 4294967296 = U (x + y) := by rw [← wrap_u32]; exact wrap_add x y
theorem mod_U (x : BitVec 32) : U x % 4294967296 = U x := by rw [← wrap_u32]; exact wrap_U x
theorem mod_ofInt (n : Int) : n % 4294967296 = U (BitVec.ofInt 32 n) := by rw [← wrap_u32]; exact wrap_ofInt n
theorem rotr_eq' (x : BitVec 32) (n : Nat) (h1 : 1 ≤ n) (h2 : n ≤ 31) :
    bits .or .u32 (U x * 2 ^ (32 - n) % 4294967296) (U x / 2 ^ n) = U (x.rotateRight n) := by
  rw [← wrap_u32]; exact rotr_eq x n h1 h2

/-- a byte, as a word -/
def B8 (b : UInt8) : BitVec 32 := BitVec.ofNat 32 b.toNat
/-- four bytes, the greatest part first -/
def W4 (b0 b1 b2 b3 : UInt8) : BitVec 32 := B8 b0 <<< 24 ||| B8 b1 <<< 16 ||| B8 b2 <<< 8 ||| B8 b3
theorem wrap_B8 (b : UInt8) : IntKind.u32.wrap (b.toNat : Int) = U (B8 b) := by
  rw [wrap_ofInt, BitVec.ofInt_natCast]; rfl
theorem wrap_shl24 (x : BitVec 32) : IntKind.u32.wrap (U x * 16777216) = U (x <<< 24) := by
  have h := shl x 24
  simpa using h
theorem wrap_shl16 (x : BitVec 32) : IntKind.u32.wrap (U x * 65536) = U (x <<< 16) := by
  have h := shl x 16
  simpa using h
theorem wrap_shl8 (x : BitVec 32) : IntKind.u32.wrap (U x * 256) = U (x <<< 8) := by
  have h := shl x 8
  simpa using h
theorem i64_add (t k : Nat) (h : t + k < 9223372036854775808) : IntKind.i64.wrap ((t : Int) + (k : Int)) = (t : Int) + (k : Int) := by
  simp [IntKind.wrap, IntKind.bits, IntKind.signed]; omega

/-- the rounds' constants -/
def KL : List Nat := [1116352408, 1899447441, 3049323471, 3921009573, 961987163, 1508970993, 2453635748, 2870763221, 3624381080, 310598401, 607225278, 1426881987, 1925078388, 2162078206, 2614888103, 3248222580, 3835390401, 4022224774, 264347078, 604807628, 770255983, 1249150122, 1555081692, 1996064986, 2554220882, 2821834349, 2952996808, 3210313671, 3336571891, 3584528711, 113926993, 338241895, 666307205, 773529912, 1294757372, 1396182291, 1695183700, 1986661051, 2177026350, 2456956037, 2730485921, 2820302411, 3259730800, 3345764771, 3516065817, 3600352804, 4094571909, 275423344, 430227734, 506948616, 659060556, 883997877, 958139571, 1322822218, 1537002063, 1747873779, 1955562222, 2024104815, 2227730452, 2361852424, 2428436474, 2756734187, 3204031479, 3329325298]
def K (i : Nat) : BitVec 32 := BitVec.ofNat 32 (KL[i]?.getD 0)
def sg0 (x : BitVec 32) : BitVec 32 := x.rotateRight 7 ^^^ x.rotateRight 18 ^^^ x >>> 3
def sg1 (x : BitVec 32) : BitVec 32 := x.rotateRight 17 ^^^ x.rotateRight 19 ^^^ x >>> 10
def T1 (e f g h k x : BitVec 32) : BitVec 32 := h + (e.rotateRight 6 ^^^ e.rotateRight 11 ^^^ e.rotateRight 25) + (e &&& f ^^^ ~~~e &&& g) + k + x
def T2 (a b c : BitVec 32) : BitVec 32 := (a.rotateRight 2 ^^^ a.rotateRight 13 ^^^ a.rotateRight 22) + (a &&& b ^^^ a &&& c ^^^ b &&& c)

/-- the word t of a schedule, of the sixteen that are kept -/
def nw (m : Nat → BitVec 32) (t : Nat) (L : Nat → BitVec 32) : BitVec 32 :=
  if t < 16 then m t else L (t % 16) + (sg0 (L ((t - 15) % 16)) + L ((t - 7) % 16) + sg1 (L ((t - 2) % 16)))
/-- the sixteen that are kept behind t words -/
def Lst (m : Nat → BitVec 32) : Nat → Nat → BitVec 32
  | 0, _ => 0#32
  | t + 1, j => if j = t % 16 then nw m t (Lst m t) else Lst m t j
def Wd (m : Nat → BitVec 32) (t : Nat) : BitVec 32 := nw m t (Lst m t)
/-- a block's own words -/
def mw (s : ByteArray) (t : Nat) : BitVec 32 :=
  if h : 4 * t + 3 < s.size then W4 (s[4 * t]'(by omega)) (s[4 * t + 1]'(by omega)) (s[4 * t + 2]'(by omega)) s[4 * t + 3] else 0#32
/-- a state in words -/
structure St where
  a : BitVec 32
  b : BitVec 32
  c : BitVec 32
  d : BitVec 32
  e : BitVec 32
  f : BitVec 32
  g : BitVec 32
  h : BitVec 32
def St.step (s : St) (i : Nat) (x : BitVec 32) : St :=
  ⟨T1 s.e s.f s.g s.h (K i) x + T2 s.a s.b s.c, s.a, s.b, s.c, s.d + T1 s.e s.f s.g s.h (K i) x, s.e, s.f, s.g⟩
def St.add (s t : St) : St := ⟨s.a + t.a, s.b + t.b, s.c + t.c, s.d + t.d, s.e + t.e, s.f + t.f, s.g + t.g, s.h + t.h⟩
/-- the state behind k rounds -/
def St.go (l : Nat → BitVec 32) (s : St) : Nat → St
  | 0 => s
  | k + 1 => (St.go l s k).step k (l k)
/-- a state with a schedule -/
def St.comp (l : Nat → BitVec 32) (s : St) : St := (St.go l s 64).add s
end Rd
end Go.Proofs.YtjimpfcgcbbipaaDoor
