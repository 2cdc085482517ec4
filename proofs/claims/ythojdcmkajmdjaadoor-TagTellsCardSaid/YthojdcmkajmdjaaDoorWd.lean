/- The arithmetic of thirty-two-bit words, as the program's numbers and as bit vectors, and the rounds of a block over bit vectors: what each of the program's expressions over words makes. Conditions: numbers are those of words where a rule says so; nothing of the program is run here. A word's four bytes, from its shifts, and a state's bytes. Conditions: none; nothing of the program is run here. The block of the text abc with its end makes of the first state the known one. Conditions: none; nothing of the program is run here. -/
import Derived.WalkKit
namespace Go.Proofs.YthojdcmkajmdjaaDoor
namespace Rd

/-- a word's number -/
def U (x : BitVec 32) : Int := (x.toNat : Int)

theorem U_nonneg (x : BitVec 32) : 0 ≤ U x := by unfold U; omega
theorem U_lt (x : BitVec 32) : U x < 4294967296 := by unfold U; have := x.isLt; omega
theorem U_inj {x y : BitVec 32} (h : U x = U y) : x = y := by
  unfold U at h; exact BitVec.eq_of_toNat_eq (by omega)

theorem wrap_u32 (n : Int) : IntKind.u32.wrap n = n % 4294967296 := by simp [IntKind.wrap, IntKind.bits, IntKind.signed]

theorem ofInt_U (x : BitVec 32) : BitVec.ofInt 32 (U x) = x := by
  unfold U
  rw [BitVec.ofInt_natCast]; simp

theorem wrap_ofInt (n : Int) : IntKind.u32.wrap n = U (BitVec.ofInt 32 n) := by
  rw [wrap_u32]; unfold U; rw [BitVec.toNat_ofInt]; omega

theorem wrap_U (x : BitVec 32) : IntKind.u32.wrap (U x) = U x := by rw [wrap_ofInt, ofInt_U]

theorem wrap_add (x y : BitVec 32) : IntKind.u32.wrap (U x + U y) = U (x + y) := by
  rw [wrap_ofInt, BitVec.ofInt_add, ofInt_U, ofInt_U]

theorem bits_and (x y : BitVec 32) : bits .and .u32 (U x) (U y) = U (x &&& y) := by
  show IntKind.u32.wrap ((BitVec.ofInt 32 (U x) &&& BitVec.ofInt 32 (U y)).toNat : Int) = _
  rw [ofInt_U, ofInt_U]; exact wrap_U _
theorem bits_or (x y : BitVec 32) : bits .or .u32 (U x) (U y) = U (x ||| y) := by
  show IntKind.u32.wrap ((BitVec.ofInt 32 (U x) ||| BitVec.ofInt 32 (U y)).toNat : Int) = _
  rw [ofInt_U, ofInt_U]; exact wrap_U _
theorem bits_xor (x y : BitVec 32) : bits .xor .u32 (U x) (U y) = U (x ^^^ y) := by
  show IntKind.u32.wrap ((BitVec.ofInt 32 (U x) ^^^ BitVec.ofInt 32 (U y)).toNat : Int) = _
  rw [ofInt_U, ofInt_U]; exact wrap_U _
theorem bits_not (x : BitVec 32) : bits .xor .u32 4294967295 (U x) = U (~~~ x) := by
  show IntKind.u32.wrap ((BitVec.ofInt 32 4294967295 ^^^ BitVec.ofInt 32 (U x)).toNat : Int) = _
  rw [ofInt_U, show BitVec.ofInt 32 4294967295 = BitVec.allOnes 32 from by decide, BitVec.allOnes_xor]; exact wrap_U _
theorem bits_not' (x : BitVec 32) : bits .xor .u32 IntKind.u32.max (U x) = U (~~~ x) := bits_not x
theorem bits_xor0 (x : BitVec 32) : bits .xor .u32 0 (U x) = U x := by
  have h : (0 : Int) = U 0#32 := rfl
  rw [h, bits_xor]; simp

theorem shr (x : BitVec 32) (n : Nat) : U x / 2 ^ n = U (x >>> n) := by
  unfold U
  rw [BitVec.toNat_ushiftRight, Nat.shiftRight_eq_div_pow]; simp
theorem shl (x : BitVec 32) (n : Nat) : IntKind.u32.wrap (U x * 2 ^ n) = U (x <<< n) := by
  rw [wrap_u32]; unfold U
  rw [BitVec.toNat_shiftLeft, Nat.shiftLeft_eq]
  simp

theorem rotr_eq (x : BitVec 32) (n : Nat) (h1 : 1 ≤ n) (h2 : n ≤ 31) :
    bits .or .u32 (IntKind.u32.wrap (U x * 2 ^ (32 - n))) (U x / 2 ^ n) = U (x.rotateRight n) := by
  rw [shl, shr, bits_or, BitVec.rotateRight_def, BitVec.or_comm]
  have : n % 32 = n := by omega
  rw [this]

theorem and31 (n : Nat) (h1 : 1 ≤ n) (h2 : n ≤ 31) : bits .and .u64 (IntKind.u64.wrap (-(n : Int))) 31 = 32 - (n : Int) := by
  have : n = 1 ∨ n = 2 ∨ n = 3 ∨ n = 4 ∨ n = 5 ∨ n = 6 ∨ n = 7 ∨ n = 8 ∨ n = 9 ∨ n = 10 ∨ n = 11 ∨ n = 12 ∨ n = 13 ∨ n = 14 ∨ n = 15 ∨ n = 16 ∨ n = 17 ∨ n = 18 ∨ n = 19 ∨ n = 20 ∨ n = 21 ∨ n = 22 ∨ n = 23 ∨ n = 24 ∨ n = 25 ∨ n = 26 ∨ n = 27 ∨ n = 28 ∨ n = 29 ∨ n = 30 ∨ n = 31 := by omega
  rcases this with rfl | rfl | rfl | rfl | rfl | rfl | rfl | rfl | rfl | rfl | rfl | rfl | rfl | rfl | rfl | rfl | rfl | rfl | rfl | rfl | rfl | rfl | rfl | rfl | rfl | rfl | rfl | rfl | rfl | rfl | rfl <;> decide +kernel

theorem wrap64_U (x : BitVec 32) : IntKind.i64.wrap (U x) = U x := by
  have h1 := U_nonneg x; have h2 := U_lt x
  simp [IntKind.wrap, IntKind.bits, IntKind.signed]; omega

theorem mod_add (x y : BitVec 32) : (U x + U y) % 4294967296 = U (x + y) := by rw [← wrap_u32]; exact wrap_add x y
theorem mod_U (x : BitVec 32) : U x % 4294967296 = U x := by rw [← wrap_u32]; exact wrap_U x
theorem mod_ofInt (n : Int) : n % 4294967296 = U (BitVec.ofInt 32 n) := by rw [← wrap_u32]; exact wrap_ofInt n
theorem rotr_eq' (x : BitVec 32) (n : Nat) (h1 : 1 ≤ n) (h2 : n ≤ 31) :
    bits .or .u32 (U x * 2 ^ (32 - n) % 4294967296) (U x / 2 ^ n) = U (x.rotateRight n) := by
  rw [← wrap_u32]; exact rotr_eq x n h1 h2

/-- a byte, as a word -/
def B8 (b : UInt8) : BitVec 32 := BitVec.ofNat 32 b.toNat
/-- four bytes, the greatest part first -/
def W4 (b0 b1 b2 b3 : UInt8) : BitVec 32 := B8 b0 <<< 24 ||| B8 b1 <<< 16 ||| B8 b2 <<< 8 ||| B8 b3
theorem wrap_B8 (b : UInt8) : IntKind.u32.wrap (b.toNat : Int) = U (B8 b) := by
  rw [wrap_ofInt, BitVec.ofInt_natCast]; rfl
theorem wrap_shl24 (x : BitVec 32) : IntKind.u32.wrap (U x * 16777216) = U (x <<< 24) := by
  have h := shl x 24
  simpa using h
theorem wrap_shl16 (x : BitVec 32) : IntKind.u32.wrap (U x * 65536) = U (x <<< 16) := by
  have h := shl x 16
  simpa using h
theorem wrap_shl8 (x : BitVec 32) : IntKind.u32.wrap (U x * 256) = U (x <<< 8) := by
  have h := shl x 8
  simpa using h
theorem i64_add (t k : Nat) (h : t + k < 9223372036854775808) : IntKind.i64.wrap ((t : Int) + (k : Int)) = (t : Int) + (k : Int) := by
  simp [IntKind.wrap, IntKind.bits, IntKind.signed]; omega

/-- the rounds' constants -/
def KL : List Nat := [1116352408, 1899447441, 3049323471, 3921009573, 961987163, 1508970993, 2453635748, 2870763221, 3624381080, 310598401, 607225278, 1426881987, 1925078388, 2162078206, 2614888103, 3248222580, 3835390401, 4022224774, 264347078, 604807628, 770255983, 1249150122, 1555081692, 1996064986, 2554220882, 2821834349, 2952996808, 3210313671, 3336571891, 3584528711, 113926993, 338241895, 666307205, 773529912, 1294757372, 1396182291, 1695183700, 1986661051, 2177026350, 2456956037, 2730485921, 2820302411, 3259730800, 3345764771, 3516065817, 3600352804, 4094571909, 275423344, 430227734, 506948616, 659060556, 883997877, 958139571, 1322822218, 1537002063, 1747873779, 1955562222, 2024104815, 2227730452, 2361852424, 2428436474, 2756734187, 3204031479, 3329325298]
def K (i : Nat) : BitVec 32 := BitVec.ofNat 32 (KL[i]?.getD 0)
def sg0 (x : BitVec 32) : BitVec 32 := x.rotateRight 7 ^^^ x.rotateRight 18 ^^^ x >>> 3
def sg1 (x : BitVec 32) : BitVec 32 := x.rotateRight 17 ^^^ x.rotateRight 19 ^^^ x >>> 10
def T1 (e f g h k x : BitVec 32) : BitVec 32 := h + (e.rotateRight 6 ^^^ e.rotateRight 11 ^^^ e.rotateRight 25) + (e &&& f ^^^ ~~~e &&& g) + k + x
def T2 (a b c : BitVec 32) : BitVec 32 := (a.rotateRight 2 ^^^ a.rotateRight 13 ^^^ a.rotateRight 22) + (a &&& b ^^^ a &&& c ^^^ b &&& c)

/-- the word t of a schedule, of the sixteen that are kept -/
def nw (m : Nat → BitVec 32) (t : Nat) (L : Nat → BitVec 32) : BitVec 32 :=
  if t < 16 then m t else L (t % 16) + (sg0 (L ((t - 15) % 16)) + L ((t - 7) % 16) + sg1 (L ((t - 2) % 16)))
/-- the sixteen that are kept behind t words -/
def Lst (m : Nat → BitVec 32) : Nat → Nat → BitVec 32
  | 0, _ => 0#32
  | t + 1, j => if j = t % 16 then nw m t (Lst m t) else Lst m t j
def Wd (m : Nat → BitVec 32) (t : Nat) : BitVec 32 := nw m t (Lst m t)
/-- a block's own words -/
def mw (s : ByteArray) (t : Nat) : BitVec 32 :=
  if h : 4 * t + 3 < s.size then W4 (s[4 * t]'(by omega)) (s[4 * t + 1]'(by omega)) (s[4 * t + 2]'(by omega)) s[4 * t + 3] else 0#32
/-- a state in words -/
structure St where
  a : BitVec 32
  b : BitVec 32
  c : BitVec 32
  d : BitVec 32
  e : BitVec 32
  f : BitVec 32
  g : BitVec 32
  h : BitVec 32
def St.step (s : St) (i : Nat) (x : BitVec 32) : St :=
  ⟨T1 s.e s.f s.g s.h (K i) x + T2 s.a s.b s.c, s.a, s.b, s.c, s.d + T1 s.e s.f s.g s.h (K i) x, s.e, s.f, s.g⟩
def St.add (s t : St) : St := ⟨s.a + t.a, s.b + t.b, s.c + t.c, s.d + t.d, s.e + t.e, s.f + t.f, s.g + t.g, s.h + t.h⟩
/-- the state behind k rounds -/
def St.go (l : Nat → BitVec 32) (s : St) : Nat → St
  | 0 => s
  | k + 1 => (St.go l s k).step k (l k)
/-- a state with a schedule -/
def St.comp (l : Nat → BitVec 32) (s : St) : St := (St.go l s 64).add s
end Rd
end Go.Proofs.YthojdcmkajmdjaaDoor

namespace Go.Proofs.YthojdcmkajmdjaaDoor
namespace Rd
/-- the lowest byte -/
def lo8 (x : BitVec 32) : UInt8 := UInt8.ofNat x.toNat
theorem mod_lo8 (x : BitVec 32) : U x % (256 : Int) = ((lo8 x).toNat : Int) := by
  unfold U lo8
  rw [UInt8.toNat_ofNat']; simp
theorem shr24 (x : BitVec 32) : U x / (16777216 : Int) = U (x >>> 24) := by have h := shr x 24; simpa using h
theorem shr16 (x : BitVec 32) : U x / (65536 : Int) = U (x >>> 16) := by have h := shr x 16; simpa using h
theorem shr8 (x : BitVec 32) : U x / (256 : Int) = U (x >>> 8) := by have h := shr x 8; simpa using h
/-- a word's bytes -/
def by4 (x : BitVec 32) : List UInt8 := [lo8 (x >>> 24), lo8 (x >>> 16), lo8 (x >>> 8), lo8 x]
def St.w (s : St) : Nat → BitVec 32
  | 0 => s.a | 1 => s.b | 2 => s.c | 3 => s.d | 4 => s.e | 5 => s.f | 6 => s.g | _ => s.h
/-- the bytes of a state's first k words -/
def St.by (s : St) : Nat → List UInt8
  | 0 => []
  | k + 1 => St.by s k ++ by4 (s.w k)
end Rd
end Go.Proofs.YthojdcmkajmdjaaDoor

namespace Go.Proofs.YthojdcmkajmdjaaDoor
namespace Rd
theorem Lst_get (m : Nat → BitVec 32) : ∀ t i, i < t → t ≤ i + 16 → Lst m t (i % 16) = Wd m i := by
  intro t
  induction t with
  | zero => intro i h _; omega
  | succ t ih =>
    intro i h1 h2
    by_cases e : i = t
    · subst e; simp [Lst, Wd]
    · rw [Lst, if_neg (by omega)]
      exact ih i (by omega) (by omega)
theorem Wd_low (m : Nat → BitVec 32) (t : Nat) (h : t < 16) : Wd m t = m t := by unfold Wd nw; rw [if_pos h]
/-- the rule of a schedule -/
theorem Wd_rec (m : Nat → BitVec 32) (t : Nat) (h : 16 ≤ t) : Wd m t = Wd m (t - 16) + (sg0 (Wd m (t - 15)) + Wd m (t - 7) + sg1 (Wd m (t - 2))) := by
  have h16 : Lst m t (t % 16) = Wd m (t - 16) := by
    have h := Lst_get m t (t - 16) (by omega) (by omega)
    rwa [show (t - 16) % 16 = t % 16 by omega] at h
  rw [← h16, ← Lst_get m t (t - 15) (by omega) (by omega), ← Lst_get m t (t - 7) (by omega) (by omega), ← Lst_get m t (t - 2) (by omega) (by omega)]
  rw [Wd]; unfold nw; rw [if_neg (by omega)]
/-- the block of a message of three letters, with its end -/
def abc : ByteArray := ⟨#[97, 98, 99, 128, 0, 0, 0, 0, 0, 0, 0, 0, 0, 0, 0, 0, 0, 0, 0, 0, 0, 0, 0, 0, 0, 0, 0, 0, 0, 0, 0, 0, 0, 0, 0, 0, 0, 0, 0, 0, 0, 0, 0, 0, 0, 0, 0, 0, 0, 0, 0, 0, 0, 0, 0, 0, 0, 0, 0, 0, 0, 0, 0, 24]⟩
theorem St.eq_of {s t : St} (h : s.a = t.a ∧ s.b = t.b ∧ s.c = t.c ∧ s.d = t.d ∧ s.e = t.e ∧ s.f = t.f ∧ s.g = t.g ∧ s.h = t.h) : s = t := by
  cases s; cases t; simp only [St.mk.injEq]; exact h
theorem abc_size : abc.size = 64 := rfl
def F0 : St := ⟨1779033703#32, 3144134277#32, 1013904242#32, 2773480762#32, 1359893119#32, 2600822924#32, 528734635#32, 1541459225#32⟩
theorem wd0 : Wd (mw abc) 0 = 1633837952#32 := (Wd_low _ _ (by decide)).trans (by decide +kernel)
theorem wd1 : Wd (mw abc) 1 = 0#32 := (Wd_low _ _ (by decide)).trans (by decide +kernel)
theorem wd2 : Wd (mw abc) 2 = 0#32 := (Wd_low _ _ (by decide)).trans (by decide +kernel)
theorem wd3 : Wd (mw abc) 3 = 0#32 := (Wd_low _ _ (by decide)).trans (by decide +kernel)
theorem wd4 : Wd (mw abc) 4 = 0#32 := (Wd_low _ _ (by decide)).trans (by decide +kernel)
theorem wd5 : Wd (mw abc) 5 = 0#32 := (Wd_low _ _ (by decide)).trans (by decide +kernel)
theorem wd6 : Wd (mw abc) 6 = 0#32 := (Wd_low _ _ (by decide)).trans (by decide +kernel)
theorem wd7 : Wd (mw abc) 7 = 0#32 := (Wd_low _ _ (by decide)).trans (by decide +kernel)
theorem wd8 : Wd (mw abc) 8 = 0#32 := (Wd_low _ _ (by decide)).trans (by decide +kernel)
theorem wd9 : Wd (mw abc) 9 = 0#32 := (Wd_low _ _ (by decide)).trans (by decide +kernel)
theorem wd10 : Wd (mw abc) 10 = 0#32 := (Wd_low _ _ (by decide)).trans (by decide +kernel)
theorem wd11 : Wd (mw abc) 11 = 0#32 := (Wd_low _ _ (by decide)).trans (by decide +kernel)
theorem wd12 : Wd (mw abc) 12 = 0#32 := (Wd_low _ _ (by decide)).trans (by decide +kernel)
theorem wd13 : Wd (mw abc) 13 = 0#32 := (Wd_low _ _ (by decide)).trans (by decide +kernel)
theorem wd14 : Wd (mw abc) 14 = 0#32 := (Wd_low _ _ (by decide)).trans (by decide +kernel)
theorem wd15 : Wd (mw abc) 15 = 24#32 := (Wd_low _ _ (by decide)).trans (by decide +kernel)
theorem wd16 : Wd (mw abc) 16 = 1633837952#32 := by
  have h := Wd_rec (mw abc) 16 (by decide)
  simp only [Nat.reduceSub, wd0, wd1, wd9, wd14] at h
  exact h.trans (by decide +kernel)
theorem wd17 : Wd (mw abc) 17 = 983040#32 := by
  have h := Wd_rec (mw abc) 17 (by decide)
  simp only [Nat.reduceSub, wd1, wd2, wd10, wd15] at h
  exact h.trans (by decide +kernel)
theorem wd18 : Wd (mw abc) 18 = 2108187653#32 := by
  have h := Wd_rec (mw abc) 18 (by decide)
  simp only [Nat.reduceSub, wd2, wd3, wd11, wd16] at h
  exact h.trans (by decide +kernel)
theorem wd19 : Wd (mw abc) 19 = 1610613702#32 := by
  have h := Wd_rec (mw abc) 19 (by decide)
  simp only [Nat.reduceSub, wd3, wd4, wd12, wd17] at h
  exact h.trans (by decide +kernel)
theorem wd20 : Wd (mw abc) 20 = 1050508152#32 := by
  have h := Wd_rec (mw abc) 20 (by decide)
  simp only [Nat.reduceSub, wd4, wd5, wd13, wd18] at h
  exact h.trans (by decide +kernel)
theorem wd21 : Wd (mw abc) 21 = 25426944#32 := by
  have h := Wd_rec (mw abc) 21 (by decide)
  simp only [Nat.reduceSub, wd5, wd6, wd14, wd19] at h
  exact h.trans (by decide +kernel)
theorem wd22 : Wd (mw abc) 22 = 316456923#32 := by
  have h := Wd_rec (mw abc) 22 (by decide)
  simp only [Nat.reduceSub, wd6, wd7, wd15, wd20] at h
  exact h.trans (by decide +kernel)
theorem wd23 : Wd (mw abc) 23 = 3806512014#32 := by
  have h := Wd_rec (mw abc) 23 (by decide)
  simp only [Nat.reduceSub, wd7, wd8, wd16, wd21] at h
  exact h.trans (by decide +kernel)
theorem wd24 : Wd (mw abc) 24 = 3357629466#32 := by
  have h := Wd_rec (mw abc) 24 (by decide)
  simp only [Nat.reduceSub, wd8, wd9, wd17, wd22] at h
  exact h.trans (by decide +kernel)
theorem wd25 : Wd (mw abc) 25 = 3073800610#32 := by
  have h := Wd_rec (mw abc) 25 (by decide)
  simp only [Nat.reduceSub, wd9, wd10, wd18, wd23] at h
  exact h.trans (by decide +kernel)
theorem wd26 : Wd (mw abc) 26 = 3854317833#32 := by
  have h := Wd_rec (mw abc) 26 (by decide)
  simp only [Nat.reduceSub, wd10, wd11, wd19, wd24] at h
  exact h.trans (by decide +kernel)
theorem wd27 : Wd (mw abc) 27 = 845560923#32 := by
  have h := Wd_rec (mw abc) 27 (by decide)
  simp only [Nat.reduceSub, wd11, wd12, wd20, wd25] at h
  exact h.trans (by decide +kernel)
theorem wd28 : Wd (mw abc) 28 = 2636160359#32 := by
  have h := Wd_rec (mw abc) 28 (by decide)
  simp only [Nat.reduceSub, wd12, wd13, wd21, wd26] at h
  exact h.trans (by decide +kernel)
theorem wd29 : Wd (mw abc) 29 = 3968280267#32 := by
  have h := Wd_rec (mw abc) 29 (by decide)
  simp only [Nat.reduceSub, wd13, wd14, wd22, wd27] at h
  exact h.trans (by decide +kernel)
theorem wd30 : Wd (mw abc) 30 = 1881225380#32 := by
  have h := Wd_rec (mw abc) 30 (by decide)
  simp only [Nat.reduceSub, wd14, wd15, wd23, wd28] at h
  exact h.trans (by decide +kernel)
theorem wd31 : Wd (mw abc) 31 = 3552024379#32 := by
  have h := Wd_rec (mw abc) 31 (by decide)
  simp only [Nat.reduceSub, wd15, wd16, wd24, wd29] at h
  exact h.trans (by decide +kernel)
theorem wd32 : Wd (mw abc) 32 = 2482346367#32 := by
  have h := Wd_rec (mw abc) 32 (by decide)
  simp only [Nat.reduceSub, wd16, wd17, wd25, wd30] at h
  exact h.trans (by decide +kernel)
theorem wd33 : Wd (mw abc) 33 = 996719219#32 := by
  have h := Wd_rec (mw abc) 33 (by decide)
  simp only [Nat.reduceSub, wd17, wd18, wd26, wd31] at h
  exact h.trans (by decide +kernel)
theorem wd34 : Wd (mw abc) 34 = 2952069057#32 := by
  have h := Wd_rec (mw abc) 34 (by decide)
  simp only [Nat.reduceSub, wd18, wd19, wd27, wd32] at h
  exact h.trans (by decide +kernel)
theorem wd35 : Wd (mw abc) 35 = 4043988066#32 := by
  have h := Wd_rec (mw abc) 35 (by decide)
  simp only [Nat.reduceSub, wd19, wd20, wd28, wd33] at h
  exact h.trans (by decide +kernel)
theorem wd36 : Wd (mw abc) 36 = 176896406#32 := by
  have h := Wd_rec (mw abc) 36 (by decide)
  simp only [Nat.reduceSub, wd20, wd21, wd29, wd34] at h
  exact h.trans (by decide +kernel)
theorem wd37 : Wd (mw abc) 37 = 1924104970#32 := by
  have h := Wd_rec (mw abc) 37 (by decide)
  simp only [Nat.reduceSub, wd21, wd22, wd30, wd35] at h
  exact h.trans (by decide +kernel)
theorem wd38 : Wd (mw abc) 38 = 2483675966#32 := by
  have h := Wd_rec (mw abc) 38 (by decide)
  simp only [Nat.reduceSub, wd22, wd23, wd31, wd36] at h
  exact h.trans (by decide +kernel)
theorem wd39 : Wd (mw abc) 39 = 610538786#32 := by
  have h := Wd_rec (mw abc) 39 (by decide)
  simp only [Nat.reduceSub, wd23, wd24, wd32, wd37] at h
  exact h.trans (by decide +kernel)
theorem wd40 : Wd (mw abc) 40 = 2672279444#32 := by
  have h := Wd_rec (mw abc) 40 (by decide)
  simp only [Nat.reduceSub, wd24, wd25, wd33, wd38] at h
  exact h.trans (by decide +kernel)
theorem wd41 : Wd (mw abc) 41 = 4037431130#32 := by
  have h := Wd_rec (mw abc) 41 (by decide)
  simp only [Nat.reduceSub, wd25, wd26, wd34, wd39] at h
  exact h.trans (by decide +kernel)
theorem wd42 : Wd (mw abc) 42 = 1042573945#32 := by
  have h := Wd_rec (mw abc) 42 (by decide)
  simp only [Nat.reduceSub, wd26, wd27, wd35, wd40] at h
  exact h.trans (by decide +kernel)
theorem wd43 : Wd (mw abc) 43 = 657669027#32 := by
  have h := Wd_rec (mw abc) 43 (by decide)
  simp only [Nat.reduceSub, wd27, wd28, wd36, wd41] at h
  exact h.trans (by decide +kernel)
theorem wd44 : Wd (mw abc) 44 = 206005234#32 := by
  have h := Wd_rec (mw abc) 44 (by decide)
  simp only [Nat.reduceSub, wd28, wd29, wd37, wd42] at h
  exact h.trans (by decide +kernel)
theorem wd45 : Wd (mw abc) 45 = 2215296807#32 := by
  have h := Wd_rec (mw abc) 45 (by decide)
  simp only [Nat.reduceSub, wd29, wd30, wd38, wd43] at h
  exact h.trans (by decide +kernel)
theorem wd46 : Wd (mw abc) 46 = 2049510749#32 := by
  have h := Wd_rec (mw abc) 46 (by decide)
  simp only [Nat.reduceSub, wd30, wd31, wd39, wd44] at h
  exact h.trans (by decide +kernel)
theorem wd47 : Wd (mw abc) 47 = 106709978#32 := by
  have h := Wd_rec (mw abc) 47 (by decide)
  simp only [Nat.reduceSub, wd31, wd32, wd40, wd45] at h
  exact h.trans (by decide +kernel)
theorem wd48 : Wd (mw abc) 48 = 4215179723#32 := by
  have h := Wd_rec (mw abc) 48 (by decide)
  simp only [Nat.reduceSub, wd32, wd33, wd41, wd46] at h
  exact h.trans (by decide +kernel)
theorem wd49 : Wd (mw abc) 49 = 3430291419#32 := by
  have h := Wd_rec (mw abc) 49 (by decide)
  simp only [Nat.reduceSub, wd33, wd34, wd42, wd47] at h
  exact h.trans (by decide +kernel)
theorem wd50 : Wd (mw abc) 50 = 3118885940#32 := by
  have h := Wd_rec (mw abc) 50 (by decide)
  simp only [Nat.reduceSub, wd34, wd35, wd43, wd48] at h
  exact h.trans (by decide +kernel)
theorem wd51 : Wd (mw abc) 51 = 2845390439#32 := by
  have h := Wd_rec (mw abc) 51 (by decide)
  simp only [Nat.reduceSub, wd35, wd36, wd44, wd49] at h
  exact h.trans (by decide +kernel)
theorem wd52 : Wd (mw abc) 52 = 2226839261#32 := by
  have h := Wd_rec (mw abc) 52 (by decide)
  simp only [Nat.reduceSub, wd36, wd37, wd45, wd50] at h
  exact h.trans (by decide +kernel)
theorem wd53 : Wd (mw abc) 53 = 3256115900#32 := by
  have h := Wd_rec (mw abc) 53 (by decide)
  simp only [Nat.reduceSub, wd37, wd38, wd46, wd51] at h
  exact h.trans (by decide +kernel)
theorem wd54 : Wd (mw abc) 54 = 344409900#32 := by
  have h := Wd_rec (mw abc) 54 (by decide)
  simp only [Nat.reduceSub, wd38, wd39, wd47, wd52] at h
  exact h.trans (by decide +kernel)
theorem wd55 : Wd (mw abc) 55 = 2987358873#32 := by
  have h := Wd_rec (mw abc) 55 (by decide)
  simp only [Nat.reduceSub, wd39, wd40, wd48, wd53] at h
  exact h.trans (by decide +kernel)
theorem wd56 : Wd (mw abc) 56 = 4015503821#32 := by
  have h := Wd_rec (mw abc) 56 (by decide)
  simp only [Nat.reduceSub, wd40, wd41, wd49, wd54] at h
  exact h.trans (by decide +kernel)
theorem wd57 : Wd (mw abc) 57 = 3957764664#32 := by
  have h := Wd_rec (mw abc) 57 (by decide)
  simp only [Nat.reduceSub, wd41, wd42, wd50, wd55] at h
  exact h.trans (by decide +kernel)
theorem wd58 : Wd (mw abc) 58 = 2682456414#32 := by
  have h := Wd_rec (mw abc) 58 (by decide)
  simp only [Nat.reduceSub, wd42, wd43, wd51, wd56] at h
  exact h.trans (by decide +kernel)
theorem wd59 : Wd (mw abc) 59 = 2025622859#32 := by
  have h := Wd_rec (mw abc) 59 (by decide)
  simp only [Nat.reduceSub, wd43, wd44, wd52, wd57] at h
  exact h.trans (by decide +kernel)
theorem wd60 : Wd (mw abc) 60 = 2755645205#32 := by
  have h := Wd_rec (mw abc) 60 (by decide)
  simp only [Nat.reduceSub, wd44, wd45, wd53, wd58] at h
  exact h.trans (by decide +kernel)
theorem wd61 : Wd (mw abc) 61 = 1720397816#32 := by
  have h := Wd_rec (mw abc) 61 (by decide)
  simp only [Nat.reduceSub, wd45, wd46, wd54, wd59] at h
  exact h.trans (by decide +kernel)
theorem wd62 : Wd (mw abc) 62 = 4004225740#32 := by
  have h := Wd_rec (mw abc) 62 (by decide)
  simp only [Nat.reduceSub, wd46, wd47, wd55, wd60] at h
  exact h.trans (by decide +kernel)
theorem wd63 : Wd (mw abc) 63 = 313650667#32 := by
  have h := Wd_rec (mw abc) 63 (by decide)
  simp only [Nat.reduceSub, wd47, wd48, wd56, wd61] at h
  exact h.trans (by decide +kernel)
theorem go0 : St.go (Wd (mw abc)) F0 0 = ⟨1779033703#32, 3144134277#32, 1013904242#32, 2773480762#32, 1359893119#32, 2600822924#32, 528734635#32, 1541459225#32⟩ := rfl
theorem go1 : St.go (Wd (mw abc)) F0 1 = ⟨1567288269#32, 1779033703#32, 3144134277#32, 1013904242#32, 4197074466#32, 1359893119#32, 2600822924#32, 528734635#32⟩ := by
  rw [St.go, go0, wd0]
  exact St.eq_of (by decide +kernel)
theorem go2 : St.go (Wd (mw abc)) F0 2 = ⟨1516951981#32, 1567288269#32, 1779033703#32, 3144134277#32, 2026797449#32, 4197074466#32, 1359893119#32, 2600822924#32⟩ := by
  rw [St.go, go1, wd1]
  exact St.eq_of (by decide +kernel)
theorem go3 : St.go (Wd (mw abc)) F0 3 = ⟨3368241063#32, 1516951981#32, 1567288269#32, 1779033703#32, 4180228587#32, 2026797449#32, 4197074466#32, 1359893119#32⟩ := by
  rw [St.go, go2, wd2]
  exact St.eq_of (by decide +kernel)
theorem go4 : St.go (Wd (mw abc)) F0 4 = ⟨3578852966#32, 3368241063#32, 1516951981#32, 1567288269#32, 618661968#32, 4180228587#32, 2026797449#32, 4197074466#32⟩ := by
  rw [St.go, go3, wd3]
  exact St.eq_of (by decide +kernel)
theorem go5 : St.go (Wd (mw abc)) F0 5 = ⟨71342698#32, 3578852966#32, 3368241063#32, 1516951981#32, 1135452741#32, 618661968#32, 4180228587#32, 2026797449#32⟩ := by
  rw [St.go, go4, wd4]
  exact St.eq_of (by decide +kernel)
theorem go6 : St.go (Wd (mw abc)) F0 6 = ⟨725748213#32, 71342698#32, 3578852966#32, 3368241063#32, 1900175533#32, 1135452741#32, 618661968#32, 4180228587#32⟩ := by
  rw [St.go, go5, wd5]
  exact St.eq_of (by decide +kernel)
theorem go7 : St.go (Wd (mw abc)) F0 7 = ⟨3842179968#32, 725748213#32, 71342698#32, 3578852966#32, 2603066369#32, 1900175533#32, 1135452741#32, 618661968#32⟩ := by
  rw [St.go, go6, wd6]
  exact St.eq_of (by decide +kernel)
theorem go8 : St.go (Wd (mw abc)) F0 8 = ⟨2241887071#32, 3842179968#32, 725748213#32, 71342698#32, 207977081#32, 2603066369#32, 1900175533#32, 1135452741#32⟩ := by
  rw [St.go, go7, wd7]
  exact St.eq_of (by decide +kernel)
theorem go9 : St.go (Wd (mw abc)) F0 9 = ⟨2382687417#32, 2241887071#32, 3842179968#32, 725748213#32, 852110732#32, 207977081#32, 2603066369#32, 1900175533#32⟩ := by
  rw [St.go, go8, wd8]
  exact St.eq_of (by decide +kernel)
theorem go10 : St.go (Wd (mw abc)) F0 10 = ⟨2357671019#32, 2382687417#32, 2241887071#32, 3842179968#32, 482944406#32, 852110732#32, 207977081#32, 2603066369#32⟩ := by
  rw [St.go, go9, wd9]
  exact St.eq_of (by decide +kernel)
theorem go11 : St.go (Wd (mw abc)) F0 11 = ⟨1201185780#32, 2357671019#32, 2382687417#32, 2241887071#32, 1131095016#32, 482944406#32, 852110732#32, 207977081#32⟩ := by
  rw [St.go, go10, wd10]
  exact St.eq_of (by decide +kernel)
theorem go12 : St.go (Wd (mw abc)) F0 12 = ⟨4146054569#32, 1201185780#32, 2357671019#32, 2382687417#32, 2171590377#32, 1131095016#32, 482944406#32, 852110732#32⟩ := by
  rw [St.go, go11, wd11]
  exact St.eq_of (by decide +kernel)
theorem go13 : St.go (Wd (mw abc)) F0 13 = ⟨2274437520#32, 4146054569#32, 1201185780#32, 2357671019#32, 509051416#32, 2171590377#32, 1131095016#32, 482944406#32⟩ := by
  rw [St.go, go12, wd12]
  exact St.eq_of (by decide +kernel)
theorem go14 : St.go (Wd (mw abc)) F0 14 = ⟨3643992854#32, 2274437520#32, 4146054569#32, 1201185780#32, 1952073950#32, 509051416#32, 2171590377#32, 1131095016#32⟩ := by
  rw [St.go, go13, wd13]
  exact St.eq_of (by decide +kernel)
theorem go15 : St.go (Wd (mw abc)) F0 15 = ⟨3227803614#32, 3643992854#32, 2274437520#32, 4146054569#32, 194179596#32, 1952073950#32, 509051416#32, 2171590377#32⟩ := by
  rw [St.go, go14, wd14]
  exact St.eq_of (by decide +kernel)
theorem go16 : St.go (Wd (mw abc)) F0 16 = ⟨2969183118#32, 3227803614#32, 3643992854#32, 2274437520#32, 123276749#32, 194179596#32, 1952073950#32, 509051416#32⟩ := by
  rw [St.go, go15, wd15]
  exact St.eq_of (by decide +kernel)
theorem go17 : St.go (Wd (mw abc)) F0 17 = ⟨567974555#32, 2969183118#32, 3227803614#32, 3643992854#32, 2150900380#32, 123276749#32, 194179596#32, 1952073950#32⟩ := by
  rw [St.go, go16, wd16]
  exact St.eq_of (by decide +kernel)
theorem go18 : St.go (Wd (mw abc)) F0 18 = ⟨3271285201#32, 567974555#32, 2969183118#32, 3227803614#32, 2221859924#32, 2150900380#32, 123276749#32, 194179596#32⟩ := by
  rw [St.go, go17, wd17]
  exact St.eq_of (by decide +kernel)
theorem go19 : St.go (Wd (mw abc)) F0 19 = ⟨4269243327#32, 3271285201#32, 567974555#32, 2969183118#32, 3431569761#32, 2221859924#32, 2150900380#32, 123276749#32⟩ := by
  rw [St.go, go18, wd18]
  exact St.eq_of (by decide +kernel)
theorem go20 : St.go (Wd (mw abc)) F0 20 = ⟨3790736435#32, 4269243327#32, 3271285201#32, 567974555#32, 2959311225#32, 3431569761#32, 2221859924#32, 2150900380#32⟩ := by
  rw [St.go, go19, wd19]
  exact St.eq_of (by decide +kernel)
theorem go21 : St.go (Wd (mw abc)) F0 21 = ⟨2647034723#32, 3790736435#32, 4269243327#32, 3271285201#32, 2329577776#32, 2959311225#32, 3431569761#32, 2221859924#32⟩ := by
  rw [St.go, go20, wd20]
  exact St.eq_of (by decide +kernel)
theorem go22 : St.go (Wd (mw abc)) F0 22 = ⟨3261099373#32, 2647034723#32, 3790736435#32, 4269243327#32, 3777329520#32, 2329577776#32, 2959311225#32, 3431569761#32⟩ := by
  rw [St.go, go21, wd21]
  exact St.eq_of (by decide +kernel)
theorem go23 : St.go (Wd (mw abc)) F0 23 = ⟨2812502591#32, 3261099373#32, 2647034723#32, 3790736435#32, 1240797514#32, 3777329520#32, 2329577776#32, 2959311225#32⟩ := by
  rw [St.go, go22, wd22]
  exact St.eq_of (by decide +kernel)
theorem go24 : St.go (Wd (mw abc)) F0 24 = ⟨3319086477#32, 2812502591#32, 3261099373#32, 2647034723#32, 2856829767#32, 1240797514#32, 3777329520#32, 2329577776#32⟩ := by
  rw [St.go, go23, wd23]
  exact St.eq_of (by decide +kernel)
theorem go25 : St.go (Wd (mw abc)) F0 25 = ⟨472655928#32, 3319086477#32, 2812502591#32, 3261099373#32, 673443729#32, 2856829767#32, 1240797514#32, 3777329520#32⟩ := by
  rw [St.go, go24, wd24]
  exact St.eq_of (by decide +kernel)
theorem go26 : St.go (Wd (mw abc)) F0 26 = ⟨3454534525#32, 472655928#32, 3319086477#32, 2812502591#32, 339230094#32, 673443729#32, 2856829767#32, 1240797514#32⟩ := by
  rw [St.go, go25, wd25]
  exact St.eq_of (by decide +kernel)
theorem go27 : St.go (Wd (mw abc)) F0 27 = ⟨3056518332#32, 3454534525#32, 472655928#32, 3319086477#32, 3343672598#32, 339230094#32, 673443729#32, 2856829767#32⟩ := by
  rw [St.go, go26, wd26]
  exact St.eq_of (by decide +kernel)
theorem go28 : St.go (Wd (mw abc)) F0 28 = ⟨2010346792#32, 3056518332#32, 3454534525#32, 472655928#32, 3992961016#32, 3343672598#32, 339230094#32, 673443729#32⟩ := by
  rw [St.go, go27, wd27]
  exact St.eq_of (by decide +kernel)
theorem go29 : St.go (Wd (mw abc)) F0 29 = ⟨909411017#32, 2010346792#32, 3056518332#32, 3454534525#32, 1628611511#32, 3992961016#32, 3343672598#32, 339230094#32⟩ := by
  rw [St.go, go28, wd28]
  exact St.eq_of (by decide +kernel)
theorem go30 : St.go (Wd (mw abc)) F0 30 = ⟨2684750640#32, 909411017#32, 2010346792#32, 3056518332#32, 2917635127#32, 1628611511#32, 3992961016#32, 3343672598#32⟩ := by
  rw [St.go, go29, wd29]
  exact St.eq_of (by decide +kernel)
theorem go31 : St.go (Wd (mw abc)) F0 31 = ⟨3935906338#32, 2684750640#32, 909411017#32, 2010346792#32, 17410874#32, 2917635127#32, 1628611511#32, 3992961016#32⟩ := by
  rw [St.go, go30, wd30]
  exact St.eq_of (by decide +kernel)
theorem go32 : St.go (Wd (mw abc)) F0 32 = ⟨1941126133#32, 3935906338#32, 2684750640#32, 909411017#32, 3126399250#32, 17410874#32, 2917635127#32, 1628611511#32⟩ := by
  rw [St.go, go31, wd31]
  exact St.eq_of (by decide +kernel)
theorem go33 : St.go (Wd (mw abc)) F0 33 = ⟨2564891911#32, 1941126133#32, 3935906338#32, 2684750640#32, 2631529974#32, 3126399250#32, 17410874#32, 2917635127#32⟩ := by
  rw [St.go, go32, wd32]
  exact St.eq_of (by decide +kernel)
theorem go34 : St.go (Wd (mw abc)) F0 34 = ⟨4267724277#32, 2564891911#32, 1941126133#32, 3935906338#32, 1495571923#32, 2631529974#32, 3126399250#32, 17410874#32⟩ := by
  rw [St.go, go33, wd33]
  exact St.eq_of (by decide +kernel)
theorem go35 : St.go (Wd (mw abc)) F0 35 = ⟨2846323596#32, 4267724277#32, 2564891911#32, 1941126133#32, 140458035#32, 1495571923#32, 2631529974#32, 3126399250#32⟩ := by
  rw [St.go, go34, wd34]
  exact St.eq_of (by decide +kernel)
theorem go36 : St.go (Wd (mw abc)) F0 36 = ⟨1705037796#32, 2846323596#32, 4267724277#32, 2564891911#32, 4105175766#32, 140458035#32, 1495571923#32, 2631529974#32⟩ := by
  rw [St.go, go35, wd35]
  exact St.eq_of (by decide +kernel)
theorem go37 : St.go (Wd (mw abc)) F0 37 = ⟨1101421745#32, 1705037796#32, 2846323596#32, 4267724277#32, 124953195#32, 4105175766#32, 140458035#32, 1495571923#32⟩ := by
  rw [St.go, go36, wd36]
  exact St.eq_of (by decide +kernel)
theorem go38 : St.go (Wd (mw abc)) F0 38 = ⟨887035396#32, 1101421745#32, 1705037796#32, 2846323596#32, 2768741693#32, 124953195#32, 4105175766#32, 140458035#32⟩ := by
  rw [St.go, go37, wd37]
  exact St.eq_of (by decide +kernel)
theorem go39 : St.go (Wd (mw abc)) F0 39 = ⟨1841658506#32, 887035396#32, 1101421745#32, 1705037796#32, 4034403272#32, 2768741693#32, 124953195#32, 4105175766#32⟩ := by
  rw [St.go, go38, wd38]
  exact St.eq_of (by decide +kernel)
theorem go40 : St.go (Wd (mw abc)) F0 40 = ⟨2045405306#32, 1841658506#32, 887035396#32, 1101421745#32, 519815328#32, 4034403272#32, 2768741693#32, 124953195#32⟩ := by
  rw [St.go, go39, wd39]
  exact St.eq_of (by decide +kernel)
theorem go41 : St.go (Wd (mw abc)) F0 41 = ⟨3597076326#32, 2045405306#32, 1841658506#32, 887035396#32, 641019235#32, 519815328#32, 4034403272#32, 2768741693#32⟩ := by
  rw [St.go, go40, wd40]
  exact St.eq_of (by decide +kernel)
theorem go42 : St.go (Wd (mw abc)) F0 42 = ⟨3745932591#32, 3597076326#32, 2045405306#32, 1841658506#32, 2206934801#32, 641019235#32, 519815328#32, 4034403272#32⟩ := by
  rw [St.go, go41, wd41]
  exact St.eq_of (by decide +kernel)
theorem go43 : St.go (Wd (mw abc)) F0 43 = ⟨397020670#32, 3745932591#32, 3597076326#32, 2045405306#32, 3737995029#32, 2206934801#32, 641019235#32, 519815328#32⟩ := by
  rw [St.go, go42, wd42]
  exact St.eq_of (by decide +kernel)
theorem go44 : St.go (Wd (mw abc)) F0 44 = ⟨2638983059#32, 397020670#32, 3745932591#32, 3597076326#32, 4255271982#32, 3737995029#32, 2206934801#32, 641019235#32⟩ := by
  rw [St.go, go43, wd43]
  exact St.eq_of (by decide +kernel)
theorem go45 : St.go (Wd (mw abc)) F0 45 = ⟨643991573#32, 2638983059#32, 397020670#32, 3745932591#32, 2819559920#32, 4255271982#32, 3737995029#32, 2206934801#32⟩ := by
  rw [St.go, go44, wd44]
  exact St.eq_of (by decide +kernel)
theorem go46 : St.go (Wd (mw abc)) F0 46 = ⟨1923828625#32, 643991573#32, 2638983059#32, 397020670#32, 3077922209#32, 2819559920#32, 4255271982#32, 3737995029#32⟩ := by
  rw [St.go, go45, wd45]
  exact St.eq_of (by decide +kernel)
theorem go47 : St.go (Wd (mw abc)) F0 47 = ⟨2706117808#32, 1923828625#32, 643991573#32, 2638983059#32, 3581645993#32, 3077922209#32, 2819559920#32, 4255271982#32⟩ := by
  rw [St.go, go46, wd46]
  exact St.eq_of (by decide +kernel)
theorem go48 : St.go (Wd (mw abc)) F0 48 = ⟨1098003085#32, 2706117808#32, 1923828625#32, 643991573#32, 4274981830#32, 3581645993#32, 3077922209#32, 2819559920#32⟩ := by
  rw [St.go, go47, wd47]
  exact St.eq_of (by decide +kernel)
theorem go49 : St.go (Wd (mw abc)) F0 49 = ⟨91585771#32, 1098003085#32, 2706117808#32, 1923828625#32, 3178315832#32, 4274981830#32, 3581645993#32, 3077922209#32⟩ := by
  rw [St.go, go48, wd48]
  exact St.eq_of (by decide +kernel)
theorem go50 : St.go (Wd (mw abc)) F0 50 = ⟨4045142696#32, 91585771#32, 1098003085#32, 2706117808#32, 1851537676#32, 3178315832#32, 4274981830#32, 3581645993#32⟩ := by
  rw [St.go, go49, wd49]
  exact St.eq_of (by decide +kernel)
theorem go51 : St.go (Wd (mw abc)) F0 51 = ⟨2047150241#32, 4045142696#32, 91585771#32, 1098003085#32, 1391578359#32, 1851537676#32, 3178315832#32, 4274981830#32⟩ := by
  rw [St.go, go50, wd50]
  exact St.eq_of (by decide +kernel)
theorem go52 : St.go (Wd (mw abc)) F0 52 = ⟨2288941602#32, 2047150241#32, 4045142696#32, 91585771#32, 1227037726#32, 1391578359#32, 1851537676#32, 3178315832#32⟩ := by
  rw [St.go, go51, wd51]
  exact St.eq_of (by decide +kernel)
theorem go53 : St.go (Wd (mw abc)) F0 53 = ⟨270520975#32, 2288941602#32, 2047150241#32, 4045142696#32, 1386118400#32, 1227037726#32, 1391578359#32, 1851537676#32⟩ := by
  rw [St.go, go52, wd52]
  exact St.eq_of (by decide +kernel)
theorem go54 : St.go (Wd (mw abc)) F0 54 = ⟨4117770203#32, 270520975#32, 2288941602#32, 2047150241#32, 2672265155#32, 1386118400#32, 1227037726#32, 1391578359#32⟩ := by
  rw [St.go, go53, wd53]
  exact St.eq_of (by decide +kernel)
theorem go55 : St.go (Wd (mw abc)) F0 55 = ⟨1053056219#32, 4117770203#32, 270520975#32, 2288941602#32, 3842906959#32, 2672265155#32, 1386118400#32, 1227037726#32⟩ := by
  rw [St.go, go54, wd54]
  exact St.eq_of (by decide +kernel)
theorem go56 : St.go (Wd (mw abc)) F0 56 = ⟨952932627#32, 1053056219#32, 4117770203#32, 270520975#32, 1422599787#32, 3842906959#32, 2672265155#32, 1386118400#32⟩ := by
  rw [St.go, go55, wd55]
  exact St.eq_of (by decide +kernel)
theorem go57 : St.go (Wd (mw abc)) F0 57 = ⟨4241590395#32, 952932627#32, 1053056219#32, 4117770203#32, 2606665836#32, 1422599787#32, 3842906959#32, 2672265155#32⟩ := by
  rw [St.go, go56, wd56]
  exact St.eq_of (by decide +kernel)
theorem go58 : St.go (Wd (mw abc)) F0 58 = ⟨3227702383#32, 4241590395#32, 952932627#32, 1053056219#32, 2118385806#32, 2606665836#32, 1422599787#32, 3842906959#32⟩ := by
  rw [St.go, go57, wd57]
  exact St.eq_of (by decide +kernel)
theorem go59 : St.go (Wd (mw abc)) F0 59 = ⟨4290184306#32, 3227702383#32, 4241590395#32, 952932627#32, 1837350854#32, 2118385806#32, 2606665836#32, 1422599787#32⟩ := by
  rw [St.go, go58, wd58]
  exact St.eq_of (by decide +kernel)
theorem go60 : St.go (Wd (mw abc)) F0 60 = ⟨3064893439#32, 4290184306#32, 3227702383#32, 4241590395#32, 2988158269#32, 1837350854#32, 2118385806#32, 2606665836#32⟩ := by
  rw [St.go, go59, wd59]
  exact St.eq_of (by decide +kernel)
theorem go61 : St.go (Wd (mw abc)) F0 61 = ⟨3093179625#32, 3064893439#32, 4290184306#32, 3227702383#32, 2518632596#32, 2988158269#32, 1837350854#32, 2118385806#32⟩ := by
  rw [St.go, go60, wd60]
  exact St.eq_of (by decide +kernel)
theorem go62 : St.go (Wd (mw abc)) F0 62 = ⟨80891244#32, 3093179625#32, 3064893439#32, 4290184306#32, 2492278198#32, 2518632596#32, 2988158269#32, 1837350854#32⟩ := by
  rw [St.go, go61, wd61]
  exact St.eq_of (by decide +kernel)
theorem go63 : St.go (Wd (mw abc)) F0 63 = ⟨3550093669#32, 80891244#32, 3093179625#32, 3064893439#32, 4212265488#32, 2492278198#32, 2518632596#32, 2988158269#32⟩ := by
  rw [St.go, go62, wd62]
  exact St.eq_of (by decide +kernel)
theorem go64 : St.go (Wd (mw abc)) F0 64 = ⟨1349398616#32, 3550093669#32, 80891244#32, 3093179625#32, 1593118500#32, 4212265488#32, 2492278198#32, 2518632596#32⟩ := by
  rw [St.go, go63, wd63]
  exact St.eq_of (by decide +kernel)
theorem comp_abc : St.comp (Wd (mw abc)) F0 = ⟨3128432319#32, 2399260650#32, 1094795486#32, 1571693091#32, 2953011619#32, 2518121116#32, 3021012833#32, 4060091821#32⟩ := by
  rw [St.comp, go64]
  exact St.eq_of (by decide +kernel)
end Rd
end Go.Proofs.YthojdcmkajmdjaaDoor
