/- Which places of a text follow some rules is told alike by its signs and by its bytes. Conditions: the text is right; the rules ask of a sign from 128 on nothing but that it is one. The package's iterator yields a list's scalars, in their order, and comes to an end. Conditions: the list lies as it is. -/
import Derived.Lib.ValidLaws
import Derived.Lib.ItoaNum
import Derived.Lib.AtoiAllCases
import Derived.Test.YtepelpmkmhhokaaGreatDoorOrdx
import Derived.Test.YtepelpmkmhhokaaGreatDoorOwx
import Derived.Shelf.GgSortFunc.RowK
import Derived.Shelf.Abstract
import Derived.Shelf.RegionOpen
import Derived.WalkKit
import Derived.OwnWalkIn
import Derived.TacticsInMore
import Derived.LoopNIn
import Derived.LoopIn
import Derived.ControlIn
import Derived.WalkLawsBesides
import Derived.WalkSpells
import Derived.Outline
import Derived.Lib.OthersKept
set_option maxRecDepth 100000
namespace Go.Proofs.YtepelpmkmhhokaaGreatDoor
open Go.Lib
namespace Pl

/-- the signs of a text, as the model's decoder reads them -/
def runesGo : Nat → List UInt8 → List Int
  | 0, _ => []
  | n + 1, l => if l = [] then [] else ((decodeL l).1 : Int) :: runesGo n (l.drop (decodeL l).2)
def runesOf (l : List UInt8) : List Int := runesGo l.length l
def bytesOf (l : List UInt8) : List Int := l.map fun b => (b.toNat : Int)

theorem runesGo_nil : ∀ n, runesGo n [] = []
  | 0 => rfl
  | _ + 1 => by simp [runesGo]
theorem runesGo_fuel : ∀ (n m : Nat) (l : List UInt8), l.length ≤ n → l.length ≤ m → runesGo n l = runesGo m l
  | 0, m, l, hn, _ => by
    have : l = [] := List.eq_nil_of_length_eq_zero (by omega)
    subst this
    rw [runesGo_nil, runesGo_nil]
  | n + 1, 0, l, _, hm => by
    have : l = [] := List.eq_nil_of_length_eq_zero (by omega)
    subst this
    rw [runesGo_nil, runesGo_nil]
  | n + 1, m + 1, l, hn, hm => by
    unfold runesGo
    by_cases hne : l = []
    · simp [hne]
    · have hw := decodeL_width l
      have hl : 0 < l.length := List.length_pos_iff.2 hne
      rw [if_neg hne, if_neg hne, runesGo_fuel n m (l.drop (decodeL l).2) (by rw [List.length_drop]; omega) (by rw [List.length_drop]; omega)]
theorem runesOf_nil : runesOf [] = [] := rfl
theorem runesOf_step (l : List UInt8) (hne : l ≠ []) : runesOf l = ((decodeL l).1 : Int) :: runesOf (l.drop (decodeL l).2) := by
  have hl : 0 < l.length := List.length_pos_iff.2 hne
  have hw := decodeL_width l
  obtain ⟨n, hn⟩ : ∃ n, l.length = n + 1 := ⟨l.length - 1, by omega⟩
  unfold runesOf
  rw [hn]
  show (if l = [] then [] else _) = _
  rw [if_neg hne, runesGo_fuel n (l.drop (decodeL l).2).length _ (by rw [List.length_drop]; omega) (Nat.le_refl _)]
theorem runesOf_cons (b : UInt8) (t : List UInt8) (h : b.toNat < 128) : runesOf (b :: t) = (b.toNat : Int) :: runesOf t := by
  rw [runesOf_step _ (by simp), decodeL_ascii b t h]
  rfl

/-- every place of a row follows a rule: f takes what stands ahead, the sign, what stands behind; -1: nothing -/
def allT (f : Int → Int → Int → Bool) : Int → List Int → Bool
  | _, [] => true
  | a, s :: t => f a s (t.headD (-1)) && allT f s t

def cls (x : Int) : Int := if x < 128 then x else 128
/-- a rule that looks at a sign from 128 on as at all others of them, and lets each stand, or none -/
structure Plainly (f : Int → Int → Int → Bool) (c : Bool) : Prop where
  cls : ∀ a s b, f a s b = f (cls a) (cls s) (cls b)
  high : ∀ a b, f a 128 b = c

theorem Plainly.of_high {f : Int → Int → Int → Bool} {c : Bool} (h : Plainly f c) (a s b : Int) (hs : 128 ≤ s) : f a s b = c := by
  rw [h.cls, show Pl.cls s = 128 by unfold Pl.cls; rw [if_neg (by omega)], h.high]
theorem Plainly.turn {f : Int → Int → Int → Bool} {c : Bool} (h : Plainly f c) {a a' s b b' : Int} (ha : Pl.cls a = Pl.cls a') (hb : Pl.cls b = Pl.cls b') : f a s b = f a' s b' := by
  rw [h.cls, ha, hb, ← h.cls]
theorem Plainly.ahead {f : Int → Int → Int → Bool} {c : Bool} (h : Plainly f c) {a a' : Int} (ha : Pl.cls a = Pl.cls a') : ∀ l, allT f a l = allT f a' l
  | [] => rfl
  | s :: t => by unfold allT; rw [h.turn ha rfl]
theorem Plainly.high_run {f : Int → Int → Int → Bool} {c : Bool} (h : Plainly f c) : ∀ (p : List Int) (a z : Int) (q : List Int), p ≠ [] → (∀ x ∈ p, 128 ≤ x) → 128 ≤ z → allT f a (p ++ q) = (c && allT f z q)
  | [], _, _, _, hp, _, _ => absurd rfl hp
  | [s], a, z, q, _, hx, hz => by
    have hs := hx s (by simp)
    show (f a s _ && allT f s q) = _
    rw [h.of_high a s _ hs, h.ahead (a := s) (a' := z) (by unfold Pl.cls; rw [if_neg (by omega), if_neg (by omega)]) q]
  | s :: r :: p, a, z, q, _, hx, hz => by
    have hs := hx s (by simp)
    show (f a s _ && allT f s ((r :: p) ++ q)) = _
    rw [h.of_high a s _ hs, h.high_run (r :: p) s z q (by simp) (fun x hm => hx x (List.mem_cons_of_mem _ hm)) hz]
    cases c <;> simp

theorem headD_append (p q : List Int) (hp : p ≠ []) (d : Int) : (p ++ q).headD d = p.headD d := by
  cases p with
  | nil => exact absurd rfl hp
  | cons a t => rfl

/-- A VALID SIGN FROM 128 ON: all its bytes are from 128 on. -/
theorem high_bytes (l : List UInt8) (hne : l ≠ []) (h0 : 128 ≤ (l.getD 0 0).toNat) (hv : ¬ ((decodeL l).1 = 65533 ∧ (decodeL l).2 = 1)) :
    128 ≤ (decodeL l).1 ∧ 2 ≤ (decodeL l).2 ∧ (decodeL l).2 ≤ l.length ∧ ∀ b ∈ l.take (decodeL l).2, 128 ≤ b.toNat := by
  have hle := decodeL_le l hne
  have hl : 0 < l.length := List.length_pos_iff.2 hne
  rw [decodeL_N] at hv hle ⊢
  have k0 := (l.getD 0 0).toNat_lt
  rcases decodeN_shape l.length (l.getD 0 0).toNat (l.getD 1 0).toNat (l.getD 2 0).toNat (l.getD 3 0).toNat with ⟨c, e⟩ | ⟨c1, c2, c3, cv, e⟩ | ⟨c1, c2, c3, c4, cv, cs, e⟩ | ⟨c1, c2, c3, c4, c5, cv, cw, e⟩ | e
  · omega
  · rw [e] at hle ⊢
    dsimp only at hle ⊢
    refine ⟨by omega, by omega, hle, ?_⟩
    rw [takeB l c2]
    simp only [List.mem_cons, List.not_mem_nil, or_false]
    rintro b (rfl | rfl) <;> omega
  · rw [e] at hle ⊢
    dsimp only at hle ⊢
    refine ⟨by omega, by omega, hle, ?_⟩
    rw [takeC l c2]
    simp only [List.mem_cons, List.not_mem_nil, or_false]
    rintro b (rfl | rfl | rfl) <;> omega
  · rw [e] at hle ⊢
    dsimp only at hle ⊢
    refine ⟨by omega, by omega, hle, ?_⟩
    rw [takeD l c2]
    simp only [List.mem_cons, List.not_mem_nil, or_false]
    rintro b (rfl | rfl | rfl | rfl) <;> omega
  · rw [e] at hv
    exact absurd ⟨rfl, rfl⟩ hv

theorem valid_head (l : List UInt8) (hne : l ≠ []) (hv : validD l = true) : ¬ ((decodeL l).1 = 65533 ∧ (decodeL l).2 = 1) ∧ validD (l.drop (decodeL l).2) = true := by
  rw [validD_step l hne] at hv
  by_cases hc : (decodeL l).1 = 65533 ∧ (decodeL l).2 = 1
  · rw [if_pos hc] at hv; cases hv
  · rw [if_neg hc] at hv; exact ⟨hc, hv⟩

theorem cls_high {x y : Int} (hx : 128 ≤ x) (hy : 128 ≤ y) : cls x = cls y := by
  unfold cls; rw [if_neg (by omega), if_neg (by omega)]

theorem bytesOf_head (l : List UInt8) (hne : l ≠ []) : (bytesOf l).headD (-1) = ((l.getD 0 0).toNat : Int) := by
  cases l with
  | nil => exact absurd rfl hne
  | cons b t => rfl
theorem head_cls (l : List UInt8) (hv : validD l = true) : cls ((runesOf l).headD (-1)) = cls ((bytesOf l).headD (-1)) := by
  by_cases hne : l = []
  · subst hne; rfl
  · rw [runesOf_step l hne, bytesOf_head l hne]
    show cls ((decodeL l).1 : Int) = _
    obtain ⟨hv1, _⟩ := valid_head l hne hv
    by_cases h0 : (l.getD 0 0).toNat < 128
    · cases l with
      | nil => exact absurd rfl hne
      | cons b t =>
        rw [decodeL_ascii b t h0]
        rfl
    · have := high_bytes l hne (by omega) hv1
      exact cls_high (by omega) (by omega)

/-- ████ SIGNS AND BYTES TELL THE SAME. -/
theorem allT_bytes {f : Int → Int → Int → Bool} {c : Bool} (hf : Plainly f c) : ∀ (n : Nat) (l : List UInt8) (a a' : Int), l.length ≤ n → validD l = true → cls a = cls a' → allT f a (runesOf l) = allT f a' (bytesOf l) := by
  intro n
  induction n with
  | zero =>
    intro l a a' hn _ _
    have : l = [] := List.eq_nil_of_length_eq_zero (by omega)
    subst this
    rfl
  | succ n ih =>
    intro l a a' hn hv ha
    by_cases hne : l = []
    · subst hne; rfl
    · obtain ⟨hv1, hv2⟩ := valid_head l hne hv
      have hl : 0 < l.length := List.length_pos_iff.2 hne
      rw [runesOf_step l hne]
      show (f a _ _ && allT f _ _) = _
      by_cases h0 : (l.getD 0 0).toNat < 128
      · cases l with
        | nil => exact absurd rfl hne
        | cons b t =>
          have h0' : b.toNat < 128 := h0
          rw [decodeL_ascii b t h0'] at hv2 ⊢
          simp only [List.drop_succ_cons, List.drop_zero] at hv2 ⊢
          show _ = (f a' (b.toNat : Int) ((bytesOf t).headD (-1)) && allT f (b.toNat : Int) (bytesOf t))
          rw [hf.turn ha (head_cls t hv2), ih t _ _ (by simp at hn; omega) hv2 rfl]
      · obtain ⟨h1, h2, h3, h4⟩ := high_bytes l hne (by omega) hv1
        have e : bytesOf l = bytesOf (l.take (decodeL l).2) ++ bytesOf (l.drop (decodeL l).2) := by
          unfold bytesOf; rw [← List.map_append, List.take_append_drop]
        rw [e, hf.high_run _ a' ((decodeL l).1 : Int) _ ?_ ?_ (by omega), hf.of_high a _ _ (by omega), ih _ _ _ (by rw [List.length_drop]; omega) hv2 rfl]
        · intro h
          have := congrArg List.length h
          have h5 : (bytesOf (l.take (decodeL l).2)).length = (decodeL l).2 := by unfold bytesOf; rw [List.length_map, List.length_take]; omega
          rw [h5, List.length_nil] at this
          omega
        · intro x hx
          unfold bytesOf at hx
          obtain ⟨b, hb, rfl⟩ := List.mem_map.1 hx
          have := h4 b hb
          omega
theorem allT_same {f : Int → Int → Int → Bool} {c : Bool} (hf : Plainly f c) (l : List UInt8) (a : Int) (hv : validD l = true) : allT f a (runesOf l) = allT f a (bytesOf l) :=
  allT_bytes hf _ l a a (Nat.le_refl _) hv rfl
end Pl
end Go.Proofs.YtepelpmkmhhokaaGreatDoor

set_option maxRecDepth 100000
namespace Go.Proofs.YtepelpmkmhhokaaGreatDoor
open Go.RowKit Go.Shelf
open Go.Sort (HoldsK)
open Scs Seqo
attribute [local go_sem] Oper.semAt_some
/-- a slice of scalars, as it lies -/
structure Sl (w : World) (p : Option Addr) (l : Array Sc) : Prop where
  small : l.size ≤ 1000000
  short : ∀ t, t < l.size → l[t]!.2.2.size ≤ 1000000
  lies : l.size = 0 ∨ ∃ blk off, p = some ⟨blk, off, none⟩ ∧ blk < w.heap.size ∧ HoldsK encS 3 w blk off l
theorem Sl.cells {w : World} {blk off : Nat} {l : Array Sc} (h : HoldsK encS 3 w blk off l) (k : Nat) (hk : k < l.size) :
    w.cell? ⟨blk, off + k * 3, none⟩ = some (.int .i64 l[k]!.1) ∧ w.cell? ⟨blk, off + k * 3 + 1, none⟩ = some (.int .i64 l[k]!.2.1) ∧ w.cell? ⟨blk, off + k * 3 + 2, none⟩ = some (.string l[k]!.2.2) :=
  ⟨(h.cell (c := 0) hk (by decide)).1, (h.cell (c := 1) hk (by decide)).1, (h.cell (c := 2) hk (by decide)).1⟩
set_option maxHeartbeats 2000000 in
theorem each_in (n : Nat) (d : Array Sc) (p : Option Addr) (cap : Nat) (l Bs : Nat) (J : Nat → World → Prop) (Jx : World → Prop) (W : World)
    (hJ : ∀ t A B r, J t A → A.grownBy B (some r) → W.heap.size ≤ r → J t B)
    (hS : ∀ t A, J t A → A.cell? ⟨Bs, 0, none⟩ = some (.slice p d.size cap) ∧ Sl A p d)
    (hY : ∀ t A, t < d.size → J t A → W.heap.size ≤ A.heap.size → YieldAt Fence.wide (n - 1) Tryz.prog l #[aggS d[t]!] A fun e B =>
      (e = .returned (.bool true) ∧ J (t + 1) B ∧ Keeps W.heap.size A B) ∨ (e = .returned (.bool false) ∧ Jx B))
    (h0 : J 0 W) :
    CallsIn Fence.wide n Tryz.prog 99 #[.func (.yield l) #[] #[], .pointer (some ⟨Bs, 0, none⟩)] W fun e W' => (∃ v, e = .returned v) ∧ (J d.size W' ∨ Jx W') := by
  obtain ⟨hc0, hs0⟩ := hS 0 W h0
  have hsm := hs0.small
  have HS := Lib.hid hS
  have HJ := Lib.hid hJ
  have HY := Lib.hid hY
  have H0 := Lib.hid h0
  clear hS hY h0 hJ hs0
  refine callsIn_of_wp Tryz.func99 rfl trivial ?_ rfl
  simp only [Tryz.ntmps99, List.size_toArray, List.length_cons, List.length_nil, Nat.reduceAdd, Nat.reduceSub, Array.replicate_succ, Array.replicate_zero, List.push_toArray, List.append_toArray, List.nil_append, List.cons_append]
  gi_wp2
  gi_loopw [7] (fun i wr => ∃ t : Nat, t ≤ d.size ∧ i = .int .i64 t ∧ J t wr ∧ W.heap.size ≤ wr.heap.size) (fun i _ => d.size - (intOf i).toNat)
  case atStart => exact ⟨0, by omega, rfl, H0.out, Nat.le_refl _⟩
  case round =>
    obtain ⟨t, ht, rfl, hj, hz⟩ := hrel
    clear hc0
    obtain ⟨_, hs⟩ := HS.out t wr hj
    by_cases hlt : t < d.size
    · have hlti : (t : Int) < (d.size : Int) := by omega
      rcases hs.lies with h | ⟨blk, off, rfl, hbl, hH⟩
      · omega
      obtain ⟨c0, c1, c2⟩ := Sl.cells hH t hlt
      obtain ⟨x, hx⟩ : ∃ x, d[t]! = x := ⟨_, rfl⟩
      rw [hx] at c0 c1 c2
      have hj2 := HJ.out t wr (wr.alloc (.cells #[.int .i64 x.1, .int .i64 x.2.1, .string x.2.2] 48)) wr.heap.size hj (gB_alloc (gB_refl wr _) _) hz
      obtain ⟨fn, tmps, assign, body, hy, hR⟩ := HY.out t _ hlt hj2 (by simp; omega)
      rw [hx] at hy
      unfold aggS at hy
      have HR := Lib.hid hR
      clear hj hR hH hs hx hj2
      gi_wp2
      refine ⟨fun h => absurd h (by decide), ?_⟩
      refine HR.out.mono ?_
      rintro e W3 (⟨rfl, hJ3, hk3⟩ | ⟨rfl, hJx3⟩)
      · have HJ3 := Lib.hid hJ3
        have hz3 : W.heap.size ≤ W3.heap.size := by have h1 := hk3.1; simp only [World.size_alloc] at h1; omega
        clear hJ3 hy c0 c1 c2 hk3
        gi_wp2
        go_roundw
        case rel => exact ⟨t + 1, by omega, by go_num, HJ3.out, hz3⟩
        case measure => simp [intOf]; omega
      · have HJx3 := Lib.hid hJx3
        clear hJx3 hy c0 c1 c2
        gi_wp2
        refine bodyPost_ret (results_none rfl _ _ _) rfl ?_
        exact ⟨⟨_, rfl⟩, .inr HJx3.out⟩
    · have htN : t = d.size := by omega
      have HJW := Lib.hid hj
      have HT := Lib.hid htN
      clear hj htN hs hsm
      gi_wp2
      go_end0
      exact ⟨⟨_, rfl⟩, .inl (by rw [← HT.out]; exact HJW.out)⟩
theorem each_run (n : Nat) (d : Array Sc) (p : Option Addr) (cap : Nat) (Bs : Nat) :
    SeqOwn Fence.wide n Tryz.prog 99 #[.pointer (some ⟨Bs, 0, none⟩)] (fun t => #[aggS d[t]!]) d.size (fun A => A.cell? ⟨Bs, 0, none⟩ = some (.slice p d.size cap) ∧ Sl A p d) :=
  fun l J Jx W hJ hS hY h0 => each_in n d p cap l Bs J Jx W hJ hS hY h0
theorem each_any (p : Option Addr) (m c : Nat) (w : World) : Calls Tryz.prog 85 #[.slice p m c] w fun e w' => e = .returned (.func (.func 99) #[] #[.pointer (some ⟨w.heap.size, 0, none⟩)]) ∧ w' = w.alloc (.cells #[.slice p m c] 49) := by
  go_enter Tryz.func85, Tryz.ntmps85
  go_wp2
  go_ret
  exact ⟨rfl, rfl⟩
theorem HoldsK_of {w w' : World} {blk off : Nat} {d : Array Sc} (h : HoldsK encS 3 w blk off d) (hb : w'.heap[blk]? = w.heap[blk]?) : HoldsK encS 3 w' blk off d := fun j hj =>
  ⟨(World.cell?_of_block (w := w) hb).trans (h j hj).1, (World.frozen?_of_block (w := w) hb).trans (h j hj).2⟩
theorem Sl.below {w w' : World} {p : Option Addr} {d : Array Sc} (h : Sl w p d) (hb : Below w.heap.size w w') : Sl w' p d := by
  refine ⟨h.small, h.short, ?_⟩
  rcases h.lies with h0 | ⟨blk, off, hp, hbl, hH⟩
  · exact .inl h0
  · exact .inr ⟨blk, off, hp, Nat.lt_of_lt_of_le hbl hb.size, HoldsK_of hH (hb.block blk hbl)⟩
theorem Sl.grown {A B : World} {p : Option Addr} {d : Array Sc} {r : Nat} (h : Sl A p d) (hg : A.grownBy B (some r)) (hw : ∀ blk off, p = some ⟨blk, off, none⟩ → blk ≠ r) : Sl B p d := by
  refine ⟨h.small, h.short, ?_⟩
  rcases h.lies with h0 | ⟨blk, off, hp, hbl, hH⟩
  · exact .inl h0
  · exact .inr ⟨blk, off, hp, Nat.lt_of_lt_of_le hbl hg.size, HoldsK_of hH (hg.block blk hbl (fun e => hw blk off hp (by first | exact Option.some.inj e | exact (Option.some.inj e).symm)))⟩
end Go.Proofs.YtepelpmkmhhokaaGreatDoor
