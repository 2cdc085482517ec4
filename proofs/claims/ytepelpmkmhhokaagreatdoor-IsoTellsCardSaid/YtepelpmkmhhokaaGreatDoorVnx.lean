/- Each of two sides tells a node, and knows it from then on. Conditions: both graphs lie, the place is one of its nodes. The rule that both nodes of a pair say the same. Conditions: both graphs lie, the places are theirs. -/
import Derived.Test.YtepelpmkmhhokaaGreatDoorKdx
import Derived.Test.YtepelpmkmhhokaaGreatDoorRgx
import Derived.Test.YtepelpmkmhhokaaGreatDoorWix
import Derived.Test.YtepelpmkmhhokaaGreatDoorAsx
import Derived.Deep.RegionWith
set_option maxRecDepth 100000
namespace Go.Proofs.YtepelpmkmhhokaaGreatDoor
open Go.RowKit Go.Shelf
open Scs
theorem entI_inj : ∀ {L L' : List (Int × Value)} {i : Nat}, entI L i = entI L' i → L = L'
  | [], [], _, _ => rfl
  | [], _ :: _, _, h => by simp [entI] at h
  | _ :: _, [], _, h => by simp [entI] at h
  | x :: t, y :: u, i, h => by
    simp only [entI, List.cons.injEq, MapEntry.mk.injEq, Value.int.injEq, true_and] at h
    obtain ⟨⟨h1, h2, _⟩, h3⟩ := h
    rw [entI_inj h3]
    obtain ⟨x1, x2⟩ := x
    obtain ⟨y1, y2⟩ := y
    simp only at h1 h2
    rw [h1, h2]
theorem HasM.same {w : World} {b : Nat} {L L' : List (Int × Value)} (h : HasM w b L) (h' : HasM w b L') : L = L' := by
  have := h.one h'
  exact entI_inj (by simpa using this)
theorem nodeA {w0 : World} {D E : Array Fn} {ma mb : Nat} {pa pb : Option Addr} {Ka Kb : Nat} (H : Vw w0 D E ma mb pa pb Ka Kb) (root : Int) (cap i : Nat) (O : Nat → Prop) (W : World) (hi : i < D.size) (hO : ∀ k, O k → k < W.heap.size) (hV : Vs w0 D E Ka Kb O W) :
    Calls Tryz.prog 43 #[.agg #[.int .i64 root, .slice pa ma cap, .map (some Ka)], .int .i64 i] W fun e W' => ∃ qk ck qd cd, e = .returned (.agg #[.int .i64 D[i]!.k, .int .i64 D[i]!.x.1, .int .i64 D[i]!.x.2.1, .string D[i]!.x.2.2, .slice qk (keysOf D[i]!).length ck, .slice qd (kidsOf D[i]!).length cd]) ∧
      Vs w0 D E Ka Kb O W' ∧ Ch Ka Kb W W' ∧ Kv Ka i (ndV D[i]! qk (keysOf D[i]!).length ck qd (kidsOf D[i]!).length cd) W' := by
  obtain ⟨M, hM⟩ := hV.ka
  obtain ⟨N, hN⟩ := hV.kb
  cases hf : findI (i : Int) M with
  | some v =>
    obtain ⟨_, _, qk, ck, qd, cd, rfl, _⟩ := hM.tells _ _ hf
    rw [show ((i : Int)).toNat = i from rfl] at hf
    refine (node_known root D ma pa cap Ka i M _ _ _ _ _ _ _ _ _ _ W hM.has hf).mono ?_
    rintro e W' ⟨rfl, hb⟩
    exact ⟨qk, ck, qd, cd, rfl, hV.below hb, Ch.of_below hb, M, hM.has.keep (hb.block _ hM.has.lt), hf⟩
  | none =>
    refine (node_new root D ma pa cap Ka i M (fun k => ¬ O k) W H.hma (H.env.below hV.low) (H.gla.below hV.low) H.k12a hi hM hf).mono ?_
    rintro e W' ⟨qk, ck, qd, cd, rfl, hks, hg⟩
    have hg' : Grw (fun k => k = Ka ∨ k = Kb) W W' := hg.wide fun k _ e => .inl e
    have hz := hg.size
    have hne := H.ne
    have hn1 := H.newA
    have hn2 := H.newB
    have hoth : W'.heap[Kb]? = W.heap[Kb]? := hg.block _ hN.has.lt (by omega)
    have hlow : Below w0.heap.size w0 W' := hV.low.trans (hg.below hV.low.size (by intro k hk; omega))
    refine ⟨qk, ck, qd, cd, rfl, ⟨hlow, ⟨_, hks.mono ?_⟩, ⟨N, ?_⟩⟩, ⟨hg', ?_, fun P hP => ⟨[], by simpa using hP.keep hoth⟩⟩, _, hks.has, by rw [findI_snoc, hf]; simp⟩
    · rintro k (hk | hk) hk'
      · exact hk hk'
      · have := hO k hk'; omega
    · refine ((hN.offs hM.has).keep hz hoth fun k hk hl => hg.block k hl hk.2).mono fun k hk => hk.1
    · intro P hP
      rw [← hM.has.same hP]
      exact ⟨_, hks.has⟩
theorem nodeB {w0 : World} {D E : Array Fn} {ma mb : Nat} {pa pb : Option Addr} {Ka Kb : Nat} (H : Vw w0 D E ma mb pa pb Ka Kb) (root : Int) (cap i : Nat) (O : Nat → Prop) (W : World) (hi : i < E.size) (hO : ∀ k, O k → k < W.heap.size) (hV : Vs w0 D E Ka Kb O W) :
    Calls Tryz.prog 43 #[.agg #[.int .i64 root, .slice pb mb cap, .map (some Kb)], .int .i64 i] W fun e W' => ∃ qk ck qd cd, e = .returned (.agg #[.int .i64 E[i]!.k, .int .i64 E[i]!.x.1, .int .i64 E[i]!.x.2.1, .string E[i]!.x.2.2, .slice qk (keysOf E[i]!).length ck, .slice qd (kidsOf E[i]!).length cd]) ∧
      Vs w0 D E Ka Kb O W' ∧ Ch Ka Kb W W' ∧ Kv Kb i (ndV E[i]! qk (keysOf E[i]!).length ck qd (kidsOf E[i]!).length cd) W' := by
  obtain ⟨M, hM⟩ := hV.ka
  obtain ⟨N, hN⟩ := hV.kb
  cases hf : findI (i : Int) N with
  | some v =>
    obtain ⟨_, _, qk, ck, qd, cd, rfl, _⟩ := hN.tells _ _ hf
    rw [show ((i : Int)).toNat = i from rfl] at hf
    refine (node_known root E mb pb cap Kb i N _ _ _ _ _ _ _ _ _ _ W hN.has hf).mono ?_
    rintro e W' ⟨rfl, hb⟩
    exact ⟨qk, ck, qd, cd, rfl, hV.below hb, Ch.of_below hb, N, hN.has.keep (hb.block _ hN.has.lt), hf⟩
  | none =>
    refine (node_new root E mb pb cap Kb i N (fun k => ¬ O k) W H.hmb (H.env.below hV.low) (H.glb.below hV.low) H.k12b hi hN hf).mono ?_
    rintro e W' ⟨qk, ck, qd, cd, rfl, hks, hg⟩
    have hg' : Grw (fun k => k = Ka ∨ k = Kb) W W' := hg.wide fun k _ e => .inr e
    have hz := hg.size
    have hne := H.ne
    have hn1 := H.newA
    have hn2 := H.newB
    have hoth : W'.heap[Ka]? = W.heap[Ka]? := hg.block _ hM.has.lt (by omega)
    have hlow : Below w0.heap.size w0 W' := hV.low.trans (hg.below hV.low.size (by intro k hk; omega))
    refine ⟨qk, ck, qd, cd, rfl, ⟨hlow, ⟨M, ?_⟩, ⟨_, hks.mono ?_⟩⟩, ⟨hg', fun P hP => ⟨[], by simpa using hP.keep hoth⟩, ?_⟩, _, hks.has, by rw [findI_snoc, hf]; simp⟩
    · refine ((hM.offs hN.has).keep hz hoth fun k hk hl => hg.block k hl hk.2).mono fun k hk => hk.1
    · rintro k (hk | hk) hk'
      · exact hk hk'
      · have := hO k hk'; omega
    · intro P hP
      rw [← hN.has.same hP]
      exact ⟨_, hks.has⟩
end Go.Proofs.YtepelpmkmhhokaaGreatDoor

set_option maxRecDepth 100000
namespace Go.Proofs.YtepelpmkmhhokaaGreatDoor
open Go.RowKit Go.Shelf
open Scs
theorem bel_alloc {A B : World} (h : Below A.heap.size A B) (o : Obj) : Below A.heap.size A (B.alloc o) := h.alloc h.size o
theorem heap_alloc_new2 (w : World) (o o' : Obj) : ((w.alloc o).alloc o').heap[w.heap.size]? = some o := by
  rw [Below.heap_alloc _ _ _ (by simp)]
  exact heap_alloc_new w o
/-- a node's cells in a block -/
def Kp (b : Nat) (W : World) : Prop := ∃ cs : Array Value, W.heap[b]? = some (.cells cs 51 (0, 0)) ∧ cs.size = 6
abbrev Zr : Obj := .cells #[.int .i64 0, .int .i64 0, .int .i64 0, .string ⟨#[]⟩, .slice none 0 0, .slice none 0 0] 51
theorem Kp.lt {b : Nat} {W : World} (h : Kp b W) : b < W.heap.size := by
  obtain ⟨cs, h1, _⟩ := h
  exact (Array.getElem?_eq_some_iff.1 h1).1
theorem Kp.alloc {b : Nat} {W : World} (h : Kp b W) (o : Obj) : Kp b (W.alloc o) := by
  have hl := h.lt
  obtain ⟨cs, h1, h2⟩ := h
  exact ⟨cs, (Below.heap_alloc _ _ _ hl).trans h1, h2⟩
theorem Kp.set {b : Nat} {W : World} (h : Kp b W) (c k : Nat) (v : Value) : Kp b (W.setCell ⟨c, k, none⟩ v) := by
  obtain ⟨cs, h1, h2⟩ := h
  by_cases e : b = c
  · subst e
    exact ⟨_, heap_setCell_same _ _ k _ _ v h1, by simp [h2]⟩
  · exact ⟨cs, (Below.heap_setCell _ _ _ _ e).trans h1, h2⟩
theorem Kp.through {b : Nat} {W W' : World} (hk : ∀ (k : Nat) (cs : Array Value) (T : TypeId) (q : Nat × Nat), W.heap[k]? = some (Obj.cells cs T q) → W'.heap[k]? = some (Obj.cells cs T q)) (h : Kp b W) : Kp b W' := by
  obtain ⟨cs, h1, h2⟩ := h
  exact ⟨cs, hk _ _ _ _ h1, h2⟩
theorem Kp.new (W : World) : Kp W.heap.size (W.alloc Zr) := ⟨_, heap_alloc_new W _, rfl⟩
theorem Kp.new1 (W : World) (o : Obj) : Kp (W.heap.size + 1) ((W.alloc o).alloc Zr) := by
  have h := Kp.new (W.alloc o)
  rwa [World.size_alloc] at h
noncomputable def ov (b k : Nat) (W : World) : Value := (W.cell? ⟨b, k, none⟩).getD .nilIface
theorem Kp.cell {b : Nat} {W : World} (h : Kp b W) {k : Nat} (hk : k < 6) : W.cell? ⟨b, k, none⟩ = some (ov b k W) := by
  obtain ⟨cs, h1, h2⟩ := h
  unfold ov
  have := cell_of_row _ _ k _ _ _ h1
  rw [this]
  rw [Array.getElem?_eq_getElem (by omega)]
  rfl
theorem Kp.frozen {b : Nat} {W : World} (h : Kp b W) (k : Nat) : W.frozen? ⟨b, k, none⟩ = false := by
  obtain ⟨cs, h1, h2⟩ := h
  exact frozen_of_row _ _ k _ _ h1
theorem Kp.drew {b : Nat} {W : World} (h : Kp b W) : Kp b W.drew := h
structure Kq (b : Nat) (W : World) : Prop where
  c0 : W.cell? ⟨b, 0, none⟩ = some (ov b 0 W)
  c1 : W.cell? ⟨b, 1, none⟩ = some (ov b 1 W)
  c2 : W.cell? ⟨b, 2, none⟩ = some (ov b 2 W)
  c3 : W.cell? ⟨b, 3, none⟩ = some (ov b 3 W)
  c4 : W.cell? ⟨b, 4, none⟩ = some (ov b 4 W)
  c5 : W.cell? ⟨b, 5, none⟩ = some (ov b 5 W)
  fr : ∀ k, W.frozen? ⟨b, k, none⟩ = false
theorem Kp.q {b : Nat} {W : World} (h : Kp b W) : Kq b W := ⟨h.cell (by decide), h.cell (by decide), h.cell (by decide), h.cell (by decide), h.cell (by decide), h.cell (by decide), h.frozen⟩
/-- a view's cells in a block, a pair's in another -/
abbrev S8v (B : Nat) (x0 x1 x2 x3 x4 x5 : Value) (C : Nat) (i j : Int) (W : World) : Prop :=
  W.cell? ⟨B, 0, none⟩ = some x0 ∧ W.cell? ⟨B, 1, none⟩ = some x1 ∧ W.cell? ⟨B, 2, none⟩ = some x2 ∧ W.cell? ⟨B, 3, none⟩ = some x3 ∧ W.cell? ⟨B, 4, none⟩ = some x4 ∧ W.cell? ⟨B, 5, none⟩ = some x5 ∧
  W.cell? ⟨C, 0, none⟩ = some (.int .i64 i) ∧ W.cell? ⟨C, 1, none⟩ = some (.int .i64 j)
structure Bx (B : Nat) (x0 x1 x2 x3 x4 x5 : Value) (C : Nat) (i j : Int) (W : World) : Prop where
  box : W.heap[B]? = some (.cells #[x0, x1, x2, x3, x4, x5] 57 (0, 0))
  pair : W.heap[C]? = some (.cells #[.int .i64 i, .int .i64 j] 39 (0, 0))
section
variable {B : Nat} {x0 x1 x2 x3 x4 x5 : Value} {C : Nat} {i j : Int} {W W' : World}
theorem Bx.s8 (h : Bx B x0 x1 x2 x3 x4 x5 C i j W) : S8v B x0 x1 x2 x3 x4 x5 C i j W := by
  obtain ⟨c0, c1, c2, c3, c4, c5⟩ := cell6 h.box
  exact ⟨c0, c1, c2, c3, c4, c5, cell_of_row _ _ 0 _ _ _ h.pair, cell_of_row _ _ 1 _ _ _ h.pair⟩
theorem Bx.alloc (h : Bx B x0 x1 x2 x3 x4 x5 C i j W) (o : Obj) : Bx B x0 x1 x2 x3 x4 x5 C i j (W.alloc o) :=
  ⟨(Below.heap_alloc _ _ _ (Array.getElem?_eq_some_iff.1 h.box).1).trans h.box, (Below.heap_alloc _ _ _ (Array.getElem?_eq_some_iff.1 h.pair).1).trans h.pair⟩
theorem Bx.drew (h : Bx B x0 x1 x2 x3 x4 x5 C i j W) : Bx B x0 x1 x2 x3 x4 x5 C i j W.drew := ⟨h.box, h.pair⟩
theorem Bx.set (h : Bx B x0 x1 x2 x3 x4 x5 C i j W) (b k : Nat) (v : Value) (h1 : B ≠ b) (h2 : C ≠ b) : Bx B x0 x1 x2 x3 x4 x5 C i j (W.setCell ⟨b, k, none⟩ v) :=
  ⟨(Below.heap_setCell _ _ _ _ h1).trans h.box, (Below.heap_setCell _ _ _ _ h2).trans h.pair⟩
end
/-- a row of cells stays where maps alone are turned -/
theorem Ch.cells {Ka Kb : Nat} {A B : World} {M N : List (Int × Value)} (h : Ch Ka Kb A B) (ha : HasM A Ka M) (hb : HasM A Kb N) (k : Nat) (cs : Array Value) (T : TypeId) (q : Nat × Nat) (hk : A.heap[k]? = some (.cells cs T q)) : B.heap[k]? = some (.cells cs T q) := by
  refine (h.grw.block k (Array.getElem?_eq_some_iff.1 hk).1 ?_).trans hk
  rintro (e | e)
  · subst e
    unfold HasM at ha
    rw [hk] at ha
    cases ha
  · subst e
    unfold HasM at hb
    rw [hk] at hb
    cases hb
/-- what a call of a side's node leaves -/
structure Pn (w0 : World) (D E : Array Fn) (Ka Kb : Nat) (O : Nat → Prop) (K i : Nat) (v : Value) (w W' W'' : World) : Prop where
  vs : Vs w0 D E Ka Kb O W''
  ch : Ch Ka Kb W' W''
  kv : Kv K i v W''
  up : Ch Ka Kb w W''
theorem Pn.size {w0 : World} {D E : Array Fn} {Ka Kb : Nat} {O : Nat → Prop} {K i : Nat} {v : Value} {w W' W'' : World} (h : Pn w0 D E Ka Kb O K i v w W' W'') : W'.heap.size ≤ W''.heap.size := h.ch.grw.size
theorem Vs.wide {w0 : World} {D E : Array Fn} {Ka Kb : Nat} {O : Nat → Prop} {W W' : World} (h : Vs w0 D E Ka Kb O W) (hb : Below W.heap.size W W') : Vs w0 D E Ka Kb (fun k => O k ∨ (W.heap.size ≤ k ∧ k < W'.heap.size)) W' := by
  obtain ⟨M, hM⟩ := h.ka
  obtain ⟨N, hN⟩ := h.kb
  exact h.keep (h.low.trans (hb.mono h.low.size)) hb.size (hb.block _ hM.has.lt) (hb.block _ hN.has.lt) (fun k _ hk => hb.block k hk) fun k hk => hk.imp id fun h => h.1
theorem callA {w0 : World} {D E : Array Fn} {ma mb : Nat} {pa pb : Option Addr} {Ka Kb : Nat} (H : Vw w0 D E ma mb pa pb Ka Kb) (ra : Int) (ca i : Nat) (O : Nat → Prop) {B : Nat} {x0 x1 x2 x3 x4 x5 : Value} {C : Nat} {a b : Int} {w W W' : World} (hi : i < D.size) (hO : ∀ k, O k → k < W.heap.size) (hv : Vs w0 D E Ka Kb O W) (hw : Ch Ka Kb w W) (h : Hid (Bx B x0 x1 x2 x3 x4 x5 C a b W')) (hb : Below W.heap.size W W') :
    Calls Tryz.prog 43 #[.agg #[.int .i64 ra, .slice pa ma ca, .map (some Ka)], .int .i64 i] W' fun e W'' => ∃ qk ck qd cd, e = .returned (.agg #[.int .i64 D[i]!.k, .int .i64 D[i]!.x.1, .int .i64 D[i]!.x.2.1, .string D[i]!.x.2.2, .slice qk (keysOf D[i]!).length ck, .slice qd (kidsOf D[i]!).length cd]) ∧
      Hid (Bx B x0 x1 x2 x3 x4 x5 C a b W'') ∧ Hid (Pn w0 D E Ka Kb (fun k => O k ∨ (W.heap.size ≤ k ∧ k < W'.heap.size)) Ka i (ndV D[i]! qk (keysOf D[i]!).length ck qd (kidsOf D[i]!).length cd) w W' W'') ∧ Hid (∀ (k : Nat) (cs : Array Value) (T : TypeId) (q : Nat × Nat), W'.heap[k]? = some (Obj.cells cs T q) → W''.heap[k]? = some (Obj.cells cs T q)) ∧ W.heap.size ≤ W''.heap.size ∧ Hid (Ch Ka Kb W W'') := by
  have hv' := hv.wide hb
  have hz := hb.size
  refine (nodeA H ra ca i _ W' hi (fun k hk => by rcases hk with hk | hk; (have := hO k hk; omega); exact hk.2) hv').mono ?_
  rintro e W'' ⟨qk, ck, qd, cd, rfl, h1, h2, h3⟩
  obtain ⟨M, hM⟩ := hv'.ka
  obtain ⟨N, hN⟩ := hv'.kb
  have hkc := h2.cells hM.has hN.has
  exact ⟨qk, ck, qd, cd, rfl, ⟨hkc _ _ _ _ h.out.box, hkc _ _ _ _ h.out.pair⟩, ⟨h1, h2, h3, (hw.trans (Ch.of_below hb)).trans h2⟩, hkc, Nat.le_trans hz h2.grw.size, (Ch.of_below hb).trans h2⟩
theorem callB {w0 : World} {D E : Array Fn} {ma mb : Nat} {pa pb : Option Addr} {Ka Kb : Nat} (H : Vw w0 D E ma mb pa pb Ka Kb) (rb : Int) (cb j : Nat) (O : Nat → Prop) {B : Nat} {x0 x1 x2 x3 x4 x5 : Value} {C : Nat} {a b : Int} {w W W' : World} (hj : j < E.size) (hO : ∀ k, O k → k < W.heap.size) (hv : Vs w0 D E Ka Kb O W) (hw : Ch Ka Kb w W) (h : Hid (Bx B x0 x1 x2 x3 x4 x5 C a b W')) (hb : Below W.heap.size W W') :
    Calls Tryz.prog 43 #[.agg #[.int .i64 rb, .slice pb mb cb, .map (some Kb)], .int .i64 j] W' fun e W'' => ∃ qk ck qd cd, e = .returned (.agg #[.int .i64 E[j]!.k, .int .i64 E[j]!.x.1, .int .i64 E[j]!.x.2.1, .string E[j]!.x.2.2, .slice qk (keysOf E[j]!).length ck, .slice qd (kidsOf E[j]!).length cd]) ∧
      Hid (Bx B x0 x1 x2 x3 x4 x5 C a b W'') ∧ Hid (Pn w0 D E Ka Kb (fun k => O k ∨ (W.heap.size ≤ k ∧ k < W'.heap.size)) Kb j (ndV E[j]! qk (keysOf E[j]!).length ck qd (kidsOf E[j]!).length cd) w W' W'') ∧ Hid (∀ (k : Nat) (cs : Array Value) (T : TypeId) (q : Nat × Nat), W'.heap[k]? = some (Obj.cells cs T q) → W''.heap[k]? = some (Obj.cells cs T q)) ∧ W.heap.size ≤ W''.heap.size ∧ Hid (Ch Ka Kb W W'') := by
  have hv' := hv.wide hb
  have hz := hb.size
  refine (nodeB H rb cb j _ W' hj (fun k hk => by rcases hk with hk | hk; (have := hO k hk; omega); exact hk.2) hv').mono ?_
  rintro e W'' ⟨qk, ck, qd, cd, rfl, h1, h2, h3⟩
  obtain ⟨M, hM⟩ := hv'.ka
  obtain ⟨N, hN⟩ := hv'.kb
  have hkc := h2.cells hM.has hN.has
  exact ⟨qk, ck, qd, cd, rfl, ⟨hkc _ _ _ _ h.out.box, hkc _ _ _ _ h.out.pair⟩, ⟨h1, h2, h3, (hw.trans (Ch.of_below hb)).trans h2⟩, hkc, Nat.le_trans hz h2.grw.size, (Ch.of_below hb).trans h2⟩
/-- what the rule answers -/
def fitE (a : Addr) : Bool → Value
  | true => .nilIface
  | false => .iface 242 (.pointer (some a))
theorem fitE_no {a : Addr} {b : Bool} (h : ¬ b = true) : fitE a b = .iface 242 (.pointer (some a)) := by
  cases b
  · rfl
  · exact absurd rfl h
theorem nv_of {L : Array Fn} {K i : Nat} {M : List (Int × Value)} {Q : Nat → Prop} {A : World} {qk qd : Option Addr} {nk ck nd cd : Nat} (h : Ks L K M Q A) (hi : Kv K i (ndV L[i]! qk nk ck qd nd cd) A) : Nv A Q L[i]! qk qd cd := by
  obtain ⟨N, h1, h2⟩ := hi
  rw [h1.same h.has] at h2
  obtain ⟨_, _, qk', ck', qd', cd', h3, h4⟩ := h.tells _ _ h2
  rw [show ((i : Int)).toNat = i from rfl] at h3 h4
  unfold ndV at h3
  injection h3 with h3
  have h5 := congrArg (fun a : Array Value => a[4]!) h3
  have h6 := congrArg (fun a : Array Value => a[5]!) h3
  simp at h5 h6
  rw [h5.1, h6.1, h6.2.2]
  exact h4
theorem Kp.row {b : Nat} {W : World} (h : Kp b W) (v0 v1 v2 v3 v4 v5 : Value) : ((((((W.setCell ⟨b, 0, none⟩ v0).setCell ⟨b, 1, none⟩ v1).setCell ⟨b, 2, none⟩ v2).setCell ⟨b, 3, none⟩ v3).setCell ⟨b, 4, none⟩ v4).setCell ⟨b, 5, none⟩ v5).heap[b]? = some (.cells #[v0, v1, v2, v3, v4, v5] 51 (0, 0)) := by
  obtain ⟨cs, h1, h2⟩ := h
  rw [heap_setCell_same _ _ 5 _ _ _ (heap_setCell_same _ _ 4 _ _ _ (heap_setCell_same _ _ 3 _ _ _ (heap_setCell_same _ _ 2 _ _ _ (heap_setCell_same _ _ 1 _ _ _ (heap_setCell_same _ _ 0 _ _ _ h1)))))]
  clear h1
  obtain ⟨l⟩ := cs
  rcases l with _ | ⟨a0, _ | ⟨a1, _ | ⟨a2, _ | ⟨a3, _ | ⟨a4, _ | ⟨a5, _ | ⟨a6, t⟩⟩⟩⟩⟩⟩⟩
  · simp at h2
  · simp at h2
  · simp at h2
  · simp at h2
  · simp at h2
  · simp at h2
  · simp only [List.setIfInBounds_toArray, List.set_cons_zero, List.set_cons_succ]
  · simp at h2
theorem row_set {b c k : Nat} {W : World} {v : Value} {x : Option Obj} (h : W.heap[b]? = x) (hne : b ≠ c) : (W.setCell ⟨c, k, none⟩ v).heap[b]? = x := (Below.heap_setCell _ _ _ _ hne).trans h
theorem row_alloc {b : Nat} {W : World} {o : Obj} {x : Option Obj} (h : W.heap[b]? = x) (hl : b < W.heap.size) : (W.alloc o).heap[b]? = x := (Below.heap_alloc _ _ _ hl).trans h
theorem row_new {b : Nat} {W : World} {o : Obj} (h : W.heap.size = b) : (W.alloc o).heap[b]? = some o := by rw [← h]; exact heap_alloc_new W o
theorem Grw.set {O : Nat → Prop} {A B : World} (h : Grw O A B) (b k : Nat) (v : Value) (hb : O b) : Grw O A (B.setCell ⟨b, k, none⟩ v) :=
  ⟨h.os, h.tape, h.output, by simpa using h.size, fun x hx ho => (Below.heap_setCell _ _ _ _ (fun e => ho (by rw [e]; exact hb))).trans (h.block x hx ho)⟩
theorem Grw.alloc {O : Nat → Prop} {A B : World} (h : Grw O A B) (o : Obj) : Grw O A (B.alloc o) :=
  ⟨h.os, h.tape, h.output, by have := h.size; simp; omega, fun x hx ho => (Below.heap_alloc _ _ _ (Nat.lt_of_lt_of_le hx h.size)).trans (h.block x hx ho)⟩
theorem fitEnd {w0 : World} {D E : Array Fn} {Ka Kb i j b7 b8 : Nat} {O O1 O2 : Nat → Prop} {v u : Value} {w W' W'' wA wB Wf : World} (hA : Pn w0 D E Ka Kb O1 Ka i v w W' wA) (hB : Pn w0 D E Ka Kb O2 Kb j u w W'' wB) (hAB : Ch Ka Kb wA wB) (hO : ∀ k, O k → O2 k) (g : Grw (fun k => k = b7 ∨ k = b8) wB Wf) (lw : w0.heap.size ≤ w.heap.size) (la : Ka < w.heap.size) (lb : Kb < w.heap.size)
    (l7 : w.heap.size ≤ b7) (l8 : w.heap.size ≤ b8) (m7 : O2 b7 ∨ wB.heap.size ≤ b7) (m8 : O2 b8 ∨ wB.heap.size ≤ b8) : Vs w0 D E Ka Kb O Wf ∧ Ch Ka Kb w Wf ∧ Kv Ka i v Wf ∧ Kv Kb j u Wf := by
  have hz := hB.up.grw.size
  have hlow : Below w0.heap.size w0 Wf := hB.vs.low.trans (g.below (by omega) (by rintro k (e | e) <;> omega))
  have ea : Wf.heap[Ka]? = wB.heap[Ka]? := g.block _ (by omega) (by omega)
  have eb : Wf.heap[Kb]? = wB.heap[Kb]? := g.block _ (by omega) (by omega)
  have hv : Vs w0 D E Ka Kb O Wf := hB.vs.keep hlow g.size ea eb (fun k hk hl => g.block k hl fun e => by
    rcases e with e | e
    · subst e
      rcases m7 with m | m
      · exact hk m
      · omega
    · subst e
      rcases m8 with m | m
      · exact hk m
      · omega) fun k hk => .inl (hO k hk)
  refine ⟨hv, ⟨⟨g.os.trans hB.up.grw.os, g.tape.trans hB.up.grw.tape, g.output.trans hB.up.grw.output, Nat.le_trans hz g.size, fun k hk hne => (g.block k (by omega) (by omega)).trans (hB.up.grw.block k hk hne)⟩, fun M hM => ?_, fun M hM => ?_⟩, ?_, ?_⟩
  · obtain ⟨N, hN⟩ := hB.up.upA M hM
    exact ⟨N, hN.keep ea⟩
  · obtain ⟨N, hN⟩ := hB.up.upB M hM
    exact ⟨N, hN.keep eb⟩
  · obtain ⟨M, h1, h2⟩ := hA.kv.upA hAB
    exact ⟨M, h1.keep ea, h2⟩
  · obtain ⟨M, h1, h2⟩ := hB.kv
    exact ⟨M, h1.keep eb, h2⟩
theorem fitRel {w0 : World} {D E : Array Fn} {Ka Kb i j b7₀ b8₀ : Nat} {O O1 O2 : Nat → Prop} {f h : Fn} {qk₀ qd₀ qk₁ qd₁ : Option Addr} {ck₀ cd₀ ck₁ cd₁ : Nat} {w W' W'' wA wB Wf : World} (hA : Pn w0 D E Ka Kb O1 Ka i (ndV f qk₀ (keysOf f).length ck₀ qd₀ (kidsOf f).length cd₀) w W' wA) (hB : Pn w0 D E Ka Kb O2 Kb j (ndV h qk₁ (keysOf h).length ck₁ qd₁ (kidsOf h).length cd₁) w W'' wB) (hAB : Ch Ka Kb wA wB) (hO : ∀ k, O k → O2 k) (lw : w0.heap.size ≤ w.heap.size) (la : Ka < w.heap.size) (lb : Kb < w.heap.size)
    (r7 : Wf.heap[b7₀]? = some (.cells #[.int .i64 f.k, .int .i64 f.x.1, .int .i64 f.x.2.1, .string f.x.2.2, .slice qk₀ (keysOf f).length ck₀, .slice qd₀ (kidsOf f).length cd₀] 51 (0, 0))) (r8 : Wf.heap[b8₀]? = some (.cells #[.int .i64 h.k, .int .i64 h.x.1, .int .i64 h.x.2.1, .string h.x.2.2, .slice qk₁ (keysOf h).length ck₁, .slice qd₁ (kidsOf h).length cd₁] 51 (0, 0))) (g : Grw (fun k => k = b7₀ ∨ k = b8₀) wB Wf)
    (l7 : w.heap.size ≤ b7₀) (l8 : w.heap.size ≤ b8₀) (m7 : O2 b7₀ ∨ wB.heap.size ≤ b7₀) (m8 : O2 b8₀ ∨ wB.heap.size ≤ b8₀) : ∃ b7 b8 qk ck qd cd qk' ck' qd' cd', (Value.pointer (some ⟨b7₀, 0, none⟩)) = .pointer (some ⟨b7, 0, none⟩) ∧ (Value.pointer (some ⟨b8₀, 0, none⟩)) = .pointer (some ⟨b8, 0, none⟩) ∧ Wf.heap[b7]? = some (.cells #[.int .i64 f.k, .int .i64 f.x.1, .int .i64 f.x.2.1, .string f.x.2.2, .slice qk (keysOf f).length ck, .slice qd (kidsOf f).length cd] 51 (0, 0)) ∧
    Wf.heap[b8]? = some (.cells #[.int .i64 h.k, .int .i64 h.x.1, .int .i64 h.x.2.1, .string h.x.2.2, .slice qk' (keysOf h).length ck', .slice qd' (kidsOf h).length cd'] 51 (0, 0)) ∧ Vs w0 D E Ka Kb O Wf ∧ Ch Ka Kb w Wf ∧ Kv Ka i (ndV f qk (keysOf f).length ck qd (kidsOf f).length cd) Wf ∧ Kv Kb j (ndV h qk' (keysOf h).length ck' qd' (kidsOf h).length cd') Wf :=
  ⟨b7₀, b8₀, qk₀, ck₀, qd₀, cd₀, qk₁, ck₁, qd₁, cd₁, rfl, rfl, r7, r8, fitEnd hA hB hAB hO g lw la lb l7 l8 m7 m8⟩
set_option maxHeartbeats 16000000 in
theorem fit25_any {w0 : World} {D E : Array Fn} {ma mb : Nat} {pa pb : Option Addr} {Ka Kb : Nat} (H : Vw w0 D E ma mb pa pb Ka Kb) (ra rb : Int) (ca cb i j : Nat) (O : Nat → Prop) (g o c : Nat) (a1 : Addr) (w : World) (hi : i < D.size) (hj : j < E.size) (hO : ∀ k, O k → k < w.heap.size) (hV : Vs w0 D E Ka Kb O w)
    (hba : badFrom D.size D.toList 0 = none) (hbb : badFrom E.size E.toList 0 = none) (p0 : w.cell? ⟨g, o, none⟩ = some (.int .i64 i)) (p1 : w.cell? ⟨g, o + 1, none⟩ = some (.int .i64 j)) (he : End1 w0 1 a1) :
    Calls Tryz.prog 25 #[.agg #[.int .i64 ra, .slice pa ma ca, .map (some Ka), .int .i64 rb, .slice pb mb cb, .map (some Kb)], .slice (some ⟨g, o, none⟩) 1 c] w fun e W' => e = .returned (fitE a1 (fitG D E i j)) ∧
      Vs w0 D E Ka Kb O W' ∧ Ch Ka Kb w W' ∧ (∃ qk ck qd cd, Kv Ka i (ndV D[i]! qk (keysOf D[i]!).length ck qd (kidsOf D[i]!).length cd) W') ∧ (∃ qk ck qd cd, Kv Kb j (ndV E[j]! qk (keysOf E[j]!).length ck qd (kidsOf E[j]!).length cd) W') := by
  obtain ⟨W, hW, hzW, hb, hr0⟩ := at1 w (.cells #[.int .i64 ra, .slice pa ma ca, .map (some Ka), .int .i64 rb, .slice pb mb cb, .map (some Kb)] 57)
  have q0 : W.cell? ⟨g, o, none⟩ = some (.int .i64 i) := (hb.cell (p := ⟨g, o, none⟩) (World.block_lt_of_cell? w ⟨g, o, none⟩ (by rw [p0]))).trans p0
  have q1 : W.cell? ⟨g, o + 1, none⟩ = some (.int .i64 j) := (hb.cell (p := ⟨g, o + 1, none⟩) (World.block_lt_of_cell? w ⟨g, o + 1, none⟩ (by rw [p1]))).trans p1
  have HW := Lib.hid hW
  have HZW := Lib.hid hzW
  have HR0 := Lib.hid hr0
  have HB := Lib.hid hb
  have HV := Lib.hid hV
  have HE := Lib.hid he
  have HLA := Lib.hid (kidsOf_len (right_at hba hi))
  have HLB := Lib.hid (kidsOf_len (right_at hbb hj))
  clear hW hr0 hb hV he p0 p1 hzW hba hbb
  go_enter Tryz.func25, Tryz.ntmps25
  go_upto_region 1 with fail
  rw [HW.out]
  go_upto_region 2 with fail
  refine wp_loop_rounds 2 ?_
  rw [rounds_succ]
  go_upto_region 4 with fail
  obtain ⟨W4, hW4, hz4, hb4, hr4⟩ := at1 W (.cells #[.int .i64 i, .int .i64 j] 39)
  rw [hW4]
  have hb := HB.out
  have hz := hb.size
  have hbw : Below w.heap.size w W4 := hb.trans (hb4.mono hz)
  have hbx4 : Bx w.heap.size (.int .i64 ra) (.slice pa ma ca) (.map (some Ka)) (.int .i64 rb) (.slice pb mb cb) (.map (some Kb)) W.heap.size i j W4 := ⟨(hb4.block _ (Array.getElem?_eq_some_iff.1 HR0.out).1).trans HR0.out, hr4⟩
  have hv4 := HV.out.below hbw
  have HA := Lib.hid fun W' h hb' => callA H ra ca i O (w := w) (W := W4) (W' := W') (B := w.heap.size) (x0 := .int .i64 ra) (x1 := .slice pa ma ca) (x2 := .map (some Ka)) (x3 := .int .i64 rb) (x4 := .slice pb mb cb) (x5 := .map (some Kb)) (C := W.heap.size) (a := i) (b := j) hi (fun k hk => Nat.lt_of_lt_of_le (hO k hk) hbw.size) hv4 (Ch.of_below hbw) h hb'
  have HB2 := Lib.hid fun O1 W1 W' (hO1 : ∀ k, O1 k → k < W1.heap.size) hv1 hc1 h hb' => callB H rb cb j O1 (w := w) (W := W1) (W' := W') (B := w.heap.size) (x0 := .int .i64 ra) (x1 := .slice pa ma ca) (x2 := .map (some Ka)) (x3 := .int .i64 rb) (x4 := .slice pb mb cb) (x5 := .map (some Kb)) (C := W.heap.size) (a := i) (b := j) hj hO1 hv1 hc1 h hb'
  have HBX := Lib.hid hbx4
  have HZO := Lib.hid (show ∀ k, O k → k < w.heap.size from hO)
  have HBW := Lib.hid hbw
  have HZ4 := Lib.hid (show W.heap.size < W4.heap.size by omega)
  obtain ⟨f, hF⟩ : ∃ f, D[i]! = f := ⟨_, rfl⟩
  obtain ⟨h, hH⟩ : ∃ f, E[j]! = f := ⟨_, rfl⟩
  rw [hF] at HA
  rw [hH] at HB2
  have HF := Lib.hid hF
  have HH := Lib.hid hH
  have HI := Lib.hid hi
  have HJ := Lib.hid hj
  have HHH := Lib.hid H
  clear hF hH hbx4 hb hz hbw hv4 hb4 hr4 hz4 hW4 q0 q1 hO hi hj H
  go_cut [7, 8] from 15 to 24 (fun s7 s8 wx => ∃ b7 b8 qk ck qd cd qk' ck' qd' cd', s7 = .pointer (some ⟨b7, 0, none⟩) ∧ s8 = .pointer (some ⟨b8, 0, none⟩) ∧ wx.heap[b7]? = some (.cells #[.int .i64 f.k, .int .i64 f.x.1, .int .i64 f.x.2.1, .string f.x.2.2, .slice qk (keysOf f).length ck, .slice qd (kidsOf f).length cd] 51 (0, 0)) ∧
    wx.heap[b8]? = some (.cells #[.int .i64 h.k, .int .i64 h.x.1, .int .i64 h.x.2.1, .string h.x.2.2, .slice qk' (keysOf h).length ck', .slice qd' (kidsOf h).length cd'] 51 (0, 0)) ∧ Vs w0 D E Ka Kb O wx ∧ Ch Ka Kb w wx ∧ Kv Ka i (ndV f qk (keysOf f).length ck qd (kidsOf f).length cd) wx ∧ Kv Kb j (ndV h qk' (keysOf h).length ck' qd' (kidsOf h).length cd') wx)
  case first =>
    have hOA : ∀ W' wA v, Pn w0 D E Ka Kb (fun k => O k ∨ (W4.heap.size ≤ k ∧ k < W'.heap.size)) Ka i v w W' wA → ∀ k, (O k ∨ (W4.heap.size ≤ k ∧ k < W'.heap.size)) → k < wA.heap.size := fun W' wA v h k hk => by
      have h1 := h.size
      have h2 := h.up.grw.size
      rcases hk with hk | hk
      · have := HZO.out k hk; omega
      · omega
    have HOA := Lib.hid hOA
    clear hOA
    have hla : Ka < w.heap.size := by obtain ⟨M, hM⟩ := HV.out.ka; exact hM.has.lt
    have hlb : Kb < w.heap.size := by obtain ⟨M, hM⟩ := HV.out.kb; exact hM.has.lt
    have z1 : w.heap.size < W.heap.size := by have := HZW.out; omega
    have z2 : W.heap.size < W4.heap.size := HZ4.out
    go_region_held3 (S8v w.heap.size (.int .i64 ra) (.slice pa ma ca) (.map (some Ka)) (.int .i64 rb) (.slice pb mb cb) (.map (some Kb)) W.heap.size i j) ((refine Bx.s8 ?_; repeat (first | (with_reducible refine Hid.out ?_; assumption) | with_reducible refine Bx.alloc ?_ _ | with_reducible refine Bx.drew ?_ | (with_reducible refine Bx.set ?_ _ _ _ ?_ ?_; rotate_left; omega; omega)))) (first
      | ((with_reducible refine (HA.out _ ?hx ?hb).mono ?_)
         case hx => (refine Lib.hid ?_; repeat (first | (with_reducible refine Hid.out ?_; assumption) | with_reducible refine Bx.alloc ?_ _ | with_reducible refine Bx.drew ?_))
         case hb => repeat (first | with_reducible exact Below.refl _ _ | with_reducible refine Below.drew ?_ | with_reducible refine bel_alloc ?_ _)
         rintro e wA ⟨qk, ck, qd, cd, rfl, hxA, hpA, hkA, zA, cA⟩
         have kA := fun b h => Kp.through (b := b) hkA.out h
         have qa1 : True ∨ True := .inl trivial
         try (with_reducible (have qa1 := kA _ (Kp.drew (Kp.new W4)); have na1 := qa1.lt))
         try (with_reducible (have qa1 := kA _ (Kp.drew (Kp.alloc (Kp.new W4) _)); have na1 := qa1.lt))
         have qa2 : True ∨ True := .inl trivial
         try (with_reducible (have qa2 := kA _ (Kp.drew (Kp.new1 W4 _)); have na2 := qa2.lt))
         clear kA)
      | ((with_reducible refine (HB2.out ?_ ?_ _ ?hO ?hv ?hc ?hx ?hb).mono ?_)
         case hv => exact (Hid.out hpA).vs
         case hc => exact (Hid.out hpA).up
         case hO => exact HOA.out _ _ _ hpA.out
         case hx => (refine Lib.hid ?_; repeat (first | (with_reducible refine Hid.out ?_; assumption) | with_reducible refine Bx.alloc ?_ _ | with_reducible refine Bx.drew ?_))
         case hb => repeat (first | with_reducible exact Below.refl _ _ | with_reducible refine Below.drew ?_ | with_reducible refine bel_alloc ?_ _)
         rintro e wB ⟨qk', ck', qd', cd', rfl, hxB, hpB, hkB, zB, cB⟩
         have kB := fun b h => Kp.through (b := b) hkB.out h
         try (with_reducible (have qb1 := kB _ (Kp.new wA); have nb1 := qb1.lt; obtain ⟨c0b1, c1b1, c2b1, c3b1, c4b1, c5b1, frb1⟩ := Kp.q qb1; have Qb1 := Lib.hid qb1; clear qb1))
         try (with_reducible (have qb2 := kB _ (Kp.alloc (Kp.new wA) _); have nb2 := qb2.lt; obtain ⟨c0b2, c1b2, c2b2, c3b2, c4b2, c5b2, frb2⟩ := Kp.q qb2; have Qb2 := Lib.hid qb2; clear qb2))
         try (with_reducible (have qb3 := kB _ (Kp.new1 wA _); have nb3 := qb3.lt; obtain ⟨c0b3, c1b3, c2b3, c3b3, c4b3, c5b3, frb3⟩ := Kp.q qb3; have Qb3 := Lib.hid qb3; clear qb3))
         try (with_reducible (have qb4 := kB _ qa1; have nb4 := qb4.lt; obtain ⟨c0b4, c1b4, c2b4, c3b4, c4b4, c5b4, frb4⟩ := Kp.q qb4; have Qb4 := Lib.hid qb4; clear qb4))
         try (with_reducible (have qb5 := kB _ (Kp.alloc qa1 _); have nb5 := qb5.lt; obtain ⟨c0b5, c1b5, c2b5, c3b5, c4b5, c5b5, frb5⟩ := Kp.q qb5; have Qb5 := Lib.hid qb5; clear qb5))
         try (with_reducible (have qb6 := kB _ qa2; have nb6 := qb6.lt; obtain ⟨c0b6, c1b6, c2b6, c3b6, c4b6, c5b6, frb6⟩ := Kp.q qb6; have Qb6 := Lib.hid qb6; clear qb6))
         try (with_reducible (have qb7 := kB _ (Kp.alloc qa2 _); have nb7 := qb7.lt; obtain ⟨c0b7, c1b7, c2b7, c3b7, c4b7, c5b7, frb7⟩ := Kp.q qb7; have Qb7 := Lib.hid qb7; clear qb7))
         clear kB))
    all_goals
      go_wp2_with fail
      go_meet
      case rel =>
        refine fitRel hpA.out hpB.out cB.out (fun k h => .inl (.inl h)) HV.out.low.size hla hlb ?_ ?_ ?_ ?_ ?_ ?_ ?_
        · repeat' (first
            | with_reducible refine Kp.row ?_ _ _ _ _ _ _
            | (with_reducible refine row_new ?_; simp; done)
            | with_reducible refine row_alloc ?_ ?_
            | with_reducible refine row_set ?_ ?_
            | with_reducible refine Kp.set ?_ _ _ _
            | (with_reducible refine Hid.out (p := Kp _ _) ?_; assumption)
            | omega
            | (simp <;> omega))
        · repeat' (first
            | with_reducible refine Kp.row ?_ _ _ _ _ _ _
            | (with_reducible refine row_new ?_; simp; done)
            | with_reducible refine row_alloc ?_ ?_
            | with_reducible refine row_set ?_ ?_
            | with_reducible refine Kp.set ?_ _ _ _
            | (with_reducible refine Hid.out (p := Kp _ _) ?_; assumption)
            | omega
            | (simp <;> omega))
        · repeat' (first
            | with_reducible exact Grw.refl _ _
            | with_reducible refine Grw.alloc ?_ _
            | with_reducible refine Grw.set ?_ _ _ _ (Or.inl rfl)
            | with_reducible refine Grw.set ?_ _ _ _ (Or.inr rfl))
        · omega
        · omega
        · first
            | (right; omega)
            | (left; right; constructor <;> (try simp) <;> omega)
            | (left; left; right; constructor <;> (try simp) <;> omega)
        · first
            | (right; omega)
            | (left; right; constructor <;> (try simp) <;> omega)
            | (left; left; right; constructor <;> (try simp) <;> omega)
  case rest =>
    obtain ⟨b7, b8, qk, ck, qd, cd, qk', ck', qd', cd', rfl, rfl, r7, r8, hv, hc, kva, kvb⟩ := hcut
    have hnA : Nv wc (fun k => ¬ O k) f qk qd cd := by
      obtain ⟨M, hM⟩ := hv.ka
      have := nv_of hM (by rw [HF.out]; exact kva)
      rwa [HF.out] at this
    have hnB : Nv wc (fun k => ¬ O k) h qk' qd' cd' := by
      obtain ⟨M, hM⟩ := hv.kb
      have := nv_of hM (by rw [HH.out]; exact kvb)
      rwa [HH.out] at this
    have hES := equalS_any (keysOf f).toArray (keysOf h).toArray qk qk' ck ck' wc hnA.ks hnB.ks
    have hq := fun w => neq_sc f.x.1 f.x.2.1 f.x.2.2 h.x.1 h.x.2.1 h.x.2.2 w
    obtain ⟨p0, p1, p2, p3, p4, p5⟩ := cell6 r7
    obtain ⟨s0, s1, s2, s3, s4, s5⟩ := cell6 r8
    have hfit : fitG D E i j = fitF f h := by unfold fitG; rw [HF.out, HH.out]
    have hlen : (kidsOf f).length = f.kids.size := by have := HLA.out; rwa [HF.out] at this
    have hlen' : (kidsOf h).length = h.kids.size := by have := HLB.out; rwa [HH.out] at this
    have he0 : wc.cell? ⟨1, 0, none⟩ = some (.iface 242 (.pointer (some a1))) := (HE.out.below hv.low).1
    rw [List.size_toArray, List.size_toArray] at hES
    have HV5 := Lib.hid hv
    have HC5 := Lib.hid hc
    have HKA := Lib.hid (show ∃ qk ck qd cd, Kv Ka i (ndV D[i]! qk (keysOf D[i]!).length ck qd (kidsOf D[i]!).length cd) wc from ⟨qk, ck, qd, cd, by rw [HF.out]; exact kva⟩)
    have HKB := Lib.hid (show ∃ qk ck qd cd, Kv Kb j (ndV E[j]! qk (keysOf E[j]!).length ck qd (kidsOf E[j]!).length cd) wc from ⟨qk', ck', qd', cd', by rw [HH.out]; exact kvb⟩)
    have HES := Lib.hid hES
    have HFG := Lib.hid hfit
    obtain ⟨ka, hka⟩ : ∃ n, (keysOf f).length = n := ⟨_, rfl⟩
    obtain ⟨kb, hkb⟩ : ∃ n, (keysOf h).length = n := ⟨_, rfl⟩
    rw [hka] at HES p4
    rw [hkb] at HES s4
    rw [hlen] at p5
    rw [hlen'] at s5
    clear hES hv hc kva kvb hnA hnB r7 r8 hfit hlen hlen' hka hkb
    by_cases h1 : f.k = h.k
    · have hn1 : (f.k != h.k) = false := by simp [h1]
      by_cases h2 : f.x = h.x
      · have hq2 : ∀ w, (binOp .neq 48 (.agg #[.int .i64 f.x.1, .int .i64 f.x.2.1, .string f.x.2.2]) (.agg #[.int .i64 h.x.1, .int .i64 h.x.2.1, .string h.x.2.2])).run Tryz.prog w = .ok (.bool false) w := fun w => by
          rw [hq w, decide_eq_true (show ((f.x.1, f.x.2.1, f.x.2.2) : Sc) = (h.x.1, h.x.2.1, h.x.2.2) by rw [h2])]
          rfl
        by_cases h3 : f.kids.size = h.kids.size
        · obtain ⟨n, hn⟩ : ∃ n, f.kids.size = n := ⟨_, rfl⟩
          have hn' : h.kids.size = n := by rw [← h3, hn]
          by_cases h4 : keysOf f = keysOf h
          · have HR := Lib.hid (HFG.out.trans (fitF_iff.2 ⟨h1, h2, h4, h3⟩))
            rw [decide_eq_true (by rw [h4])] at HES
            rw [hn] at p5
            rw [hn'] at s5
            clear h1 h2 h3 h4 hn hn' hq
            go_wp2_with (first
              | (go_at_call 44
                 refine HES.out.mono ?_
                 rintro e w5 ⟨rfl, hb5⟩
                 have he5 := (hb5.cell (p := ⟨1, 0, none⟩) (World.block_lt_of_cell? wc ⟨1, 0, none⟩ (by rw [he0]))).trans he0
                 have HB5 := Lib.hid hb5
                 clear hb5))
            rw [rounds_succ]
            go_wp2_with fail
            go_ret
            rw [HR.out]
            exact ⟨rfl, HV5.out.below HB5.out, HC5.out.trans (Ch.of_below HB5.out), let ⟨a, b, c, d, h⟩ := HKA.out; ⟨a, b, c, d, h.upA (Ch.of_below (Kb := Kb) HB5.out)⟩, let ⟨a, b, c, d, h⟩ := HKB.out; ⟨a, b, c, d, h.upB (Ch.of_below (Ka := Ka) HB5.out)⟩⟩
          · have HR := Lib.hid (show ¬ fitG D E i j = true by rw [HFG.out, fitF_iff]; exact fun e => h4 e.2.2.1)
            rw [decide_eq_false (fun e => h4 (by simpa using e))] at HES
            rw [hn] at p5
            rw [hn'] at s5
            clear h1 h2 h3 h4 hn hn' hq
            go_wp2_with (first
              | (go_at_call 44
                 refine HES.out.mono ?_
                 rintro e w5 ⟨rfl, hb5⟩
                 have he5 := (hb5.cell (p := ⟨1, 0, none⟩) (World.block_lt_of_cell? wc ⟨1, 0, none⟩ (by rw [he0]))).trans he0
                 have HB5 := Lib.hid hb5
                 clear hb5))
            go_ret
            rw [fitE_no HR.out]
            exact ⟨rfl, HV5.out.below HB5.out, HC5.out.trans (Ch.of_below HB5.out), let ⟨a, b, c, d, h⟩ := HKA.out; ⟨a, b, c, d, h.upA (Ch.of_below (Kb := Kb) HB5.out)⟩, let ⟨a, b, c, d, h⟩ := HKB.out; ⟨a, b, c, d, h.upB (Ch.of_below (Ka := Ka) HB5.out)⟩⟩
        · have HR := Lib.hid (show ¬ fitG D E i j = true by rw [HFG.out, fitF_iff]; exact fun e => h3 e.2.2.2)
          obtain ⟨n, hn⟩ : ∃ n, f.kids.size = n := ⟨_, rfl⟩
          obtain ⟨n', hn'⟩ : ∃ n, h.kids.size = n := ⟨_, rfl⟩
          rw [hn, hn'] at h3
          have hn3 : ((n : Int) != (n' : Int)) = true := by simp; omega
          have hn4 : (n != n') = true := by simp; omega
          rw [hn] at p5
          rw [hn'] at s5
          clear h1 h2 h3 hn hn' hq
          go_wp2_with fail
          go_ret
          rw [fitE_no HR.out]
          exact ⟨rfl, HV5.out, HC5.out, HKA.out, HKB.out⟩
      · have HR := Lib.hid (show ¬ fitG D E i j = true by rw [HFG.out, fitF_iff]; exact fun e => h2 e.2.1)
        have hq2 : ∀ w, (binOp .neq 48 (.agg #[.int .i64 f.x.1, .int .i64 f.x.2.1, .string f.x.2.2]) (.agg #[.int .i64 h.x.1, .int .i64 h.x.2.1, .string h.x.2.2])).run Tryz.prog w = .ok (.bool true) w := fun w => by
          rw [hq w, decide_eq_false (show ¬ ((f.x.1, f.x.2.1, f.x.2.2) : Sc) = (h.x.1, h.x.2.1, h.x.2.2) from h2)]
          rfl
        clear h1 h2 hq
        go_wp2_with fail
        go_ret
        rw [fitE_no HR.out]
        exact ⟨rfl, HV5.out, HC5.out, HKA.out, HKB.out⟩
    · have HR := Lib.hid (show ¬ fitG D E i j = true by rw [HFG.out, fitF_iff]; exact fun e => h1 e.1)
      have hn1 : (f.k != h.k) = true := by simp [h1]
      clear h1 hq
      go_wp2_with fail
      go_ret
      rw [fitE_no HR.out]
      exact ⟨rfl, HV5.out, HC5.out, HKA.out, HKB.out⟩
end Go.Proofs.YtepelpmkmhhokaaGreatDoor
