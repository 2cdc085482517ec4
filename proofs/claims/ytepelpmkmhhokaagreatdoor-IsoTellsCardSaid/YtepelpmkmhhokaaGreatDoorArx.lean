/- Graphs as they lie: their nodes, and those nodes' keys and kids. Conditions: none. A node's own rules are told as the document tells them: those that need no other package. Conditions: none. A node follows some rules if it follows each; the library tells where a number, a scalar of a list is first such. Conditions: the rules keep what lay. The library tells whether one of some numbers, of some scalars is such. Conditions: what tells it keeps what lay. -/
import Derived.Test.YtepelpmkmhhokaaGreatDoorSax
set_option maxRecDepth 100000
namespace Go.Proofs.YtepelpmkmhhokaaGreatDoor
open Go.RowKit Go.Shelf
open Scs
open Go.Sort (HoldsK)
/-- a node as it lies: its kind, its scalar, the slices of its keys and of its kids, and what they hold -/
structure Fn where
  k : Int
  x : Sc
  pk : Option Addr
  ck : Nat
  keys : Array Sc
  pd : Option Addr
  cd : Nat
  kids : Array Int
instance : Inhabited Fn := ⟨⟨0, (0, 0, .empty), none, 0, #[], none, 0, #[]⟩⟩
def encF (f : Fn) : List Value := [.int .i64 f.k, .int .i64 f.x.1, .int .i64 f.x.2.1, .string f.x.2.2, .slice f.pk f.keys.size f.ck, .slice f.pd f.kids.size f.cd]
/-- numbers in a row -/
structure Il (w : World) (p : Option Addr) (l : Array Int) : Prop where
  small : l.size ≤ 1000000
  lies : l.size = 0 ∨ ∃ blk off, p = some ⟨blk, off, none⟩ ∧ blk < w.heap.size ∧ ∀ i, i < l.size → w.cell? ⟨blk, off + i, none⟩ = some (.int .i64 l[i]!)
theorem Il.below {w w' : World} {p : Option Addr} {l : Array Int} (h : Il w p l) (hb : Below w.heap.size w w') : Il w' p l := by
  refine ⟨h.small, ?_⟩
  rcases h.lies with h0 | ⟨blk, off, hp, hbl, hH⟩
  · exact .inl h0
  · exact .inr ⟨blk, off, hp, Nat.lt_of_lt_of_le hbl hb.size, fun i hi => (hb.cell (p := ⟨blk, off + i, none⟩) hbl).trans (hH i hi)⟩
theorem Il.at {w : World} {p : Option Addr} {l : Array Int} (h : Il w p l) (i : Nat) (hi : i < l.size) :
    ∃ blk off, p = some ⟨blk, off, none⟩ ∧ blk < w.heap.size ∧ w.cell? ⟨blk, off + i, none⟩ = some (.int .i64 l[i]!) := by
  rcases h.lies with h0 | ⟨blk, off, hp, hbl, hH⟩
  · omega
  · exact ⟨blk, off, hp, hbl, hH i hi⟩
/-- a node's keys and kids lie -/
structure Nl (w : World) (f : Fn) : Prop where
  xs : f.x.2.2.size ≤ 1000000
  ks : Sl w f.pk f.keys
  ds : Il w f.pd f.kids
theorem Nl.below {w w' : World} {f : Fn} (h : Nl w f) (hb : Below w.heap.size w w') : Nl w' f := ⟨h.xs, h.ks.below hb, h.ds.below hb⟩
/-- nodes in a row, each with its keys and kids -/
structure Gl (w : World) (p : Option Addr) (L : Array Fn) : Prop where
  small : L.size ≤ 1000000
  nodes : ∀ t, t < L.size → Nl w L[t]!
  lies : L.size = 0 ∨ ∃ blk off, p = some ⟨blk, off, none⟩ ∧ blk < w.heap.size ∧ HoldsK encF 6 w blk off L
theorem Gl.below {w w' : World} {p : Option Addr} {L : Array Fn} (h : Gl w p L) (hb : Below w.heap.size w w') : Gl w' p L := by
  refine ⟨h.small, fun t ht => (h.nodes t ht).below hb, ?_⟩
  rcases h.lies with h0 | ⟨blk, off, hp, hbl, hH⟩
  · exact .inl h0
  · exact .inr ⟨blk, off, hp, Nat.lt_of_lt_of_le hbl hb.size, fun j hj => ⟨(World.cell?_of_block (w := w) (hb.block blk hbl)).trans (hH j hj).1, (World.frozen?_of_block (w := w) (hb.block blk hbl)).trans (hH j hj).2⟩⟩
theorem Gl.at {w : World} {p : Option Addr} {L : Array Fn} (h : Gl w p L) (t : Nat) (ht : t < L.size) :
    ∃ blk off, p = some ⟨blk, off, none⟩ ∧ blk < w.heap.size ∧ w.cell? ⟨blk, off + t * 6, none⟩ = some (.int .i64 L[t]!.k) ∧ w.cell? ⟨blk, off + t * 6 + 1, none⟩ = some (.int .i64 L[t]!.x.1) ∧
      w.cell? ⟨blk, off + t * 6 + 2, none⟩ = some (.int .i64 L[t]!.x.2.1) ∧ w.cell? ⟨blk, off + t * 6 + 3, none⟩ = some (.string L[t]!.x.2.2) ∧
      w.cell? ⟨blk, off + t * 6 + 4, none⟩ = some (.slice L[t]!.pk L[t]!.keys.size L[t]!.ck) ∧ w.cell? ⟨blk, off + t * 6 + 5, none⟩ = some (.slice L[t]!.pd L[t]!.kids.size L[t]!.cd) := by
  rcases h.lies with h0 | ⟨blk, off, hp, hbl, hH⟩
  · omega
  · exact ⟨blk, off, hp, hbl, (hH.cell (c := 0) ht (by decide)).1, (hH.cell (c := 1) ht (by decide)).1, (hH.cell (c := 2) ht (by decide)).1, (hH.cell (c := 3) ht (by decide)).1, (hH.cell (c := 4) ht (by decide)).1, (hH.cell (c := 5) ht (by decide)).1⟩
theorem ret_bool {a b : Bool} (h : a = b) : Ending.returned (.bool a) = Ending.returned (.bool b) := by rw [h]
/-- is a number the place of one of so many? -/
def plB (i n : Int) : Bool := if 0 ≤ i then decide (i < n) else false
theorem plB_iff {i n : Int} : plB i n = true ↔ 0 ≤ i ∧ i < n := by
  unfold plB
  split <;> simp <;> omega
theorem isPlace_any (i n : Int) (w : World) : Calls Tryz.prog 81 #[.int .i64 i, .int .i64 n] w fun e w' => e = .returned (.bool (plB i n)) ∧ w' = w := by
  unfold plB
  by_cases h : 0 ≤ i
  all_goals
    first | rw [if_pos h] | rw [if_neg h]
    go_enter Tryz.func81, Tryz.ntmps81
    go_wp2_with fail
    all_goals
      go_ret
      refine ⟨ret_bool ?_, rfl⟩
      simp [*] <;> omega
end Go.Proofs.YtepelpmkmhhokaaGreatDoor

set_option maxRecDepth 100000
namespace Go.Proofs.YtepelpmkmhhokaaGreatDoor
open Go.RowKit Go.Shelf
open Scs
theorem hasNoKeys_any (k a b : Int) (s : ByteArray) (pk : Option Addr) (nk ck : Nat) (pd : Option Addr) (nd cd : Nat) (n : Int) (w : World) :
    Calls Tryz.prog 112 #[.agg #[.int .i64 k, .int .i64 a, .int .i64 b, .string s, .slice pk nk ck, .slice pd nd cd, .int .i64 n]] w fun e w' => e = .returned (.bool (decide (nk = 0))) ∧ Below w.heap.size w w' := by
  go_enter Tryz.func112, Tryz.ntmps112
  go_wp2_with fail
  go_ret
  refine ⟨ret_bool ?_, (Below.refl _ _).alloc (Nat.le_refl _) _⟩
  rw [Bool.eq_iff_iff]
  simp
theorem hasNoKids_any (k a b : Int) (s : ByteArray) (pk : Option Addr) (nk ck : Nat) (pd : Option Addr) (nd cd : Nat) (n : Int) (w : World) :
    Calls Tryz.prog 113 #[.agg #[.int .i64 k, .int .i64 a, .int .i64 b, .string s, .slice pk nk ck, .slice pd nd cd, .int .i64 n]] w fun e w' => e = .returned (.bool (decide (nd = 0))) ∧ Below w.heap.size w w' := by
  go_enter Tryz.func113, Tryz.ntmps113
  go_wp2_with fail
  go_ret
  refine ⟨ret_bool ?_, (Below.refl _ _).alloc (Nat.le_refl _) _⟩
  rw [Bool.eq_iff_iff]
  simp
theorem saysNull_any (k a b : Int) (s : ByteArray) (pk : Option Addr) (nk ck : Nat) (pd : Option Addr) (nd cd : Nat) (n : Int) (w : World) :
    Calls Tryz.prog 114 #[.agg #[.int .i64 k, .int .i64 a, .int .i64 b, .string s, .slice pk nk ck, .slice pd nd cd, .int .i64 n]] w fun e w' => e = .returned (.bool (decide (((a, b, s) : Sc) = (0, 0, ⟨#[]⟩)))) ∧ Below w.heap.size w w' := by
  have hq := fun w => eq_sc a b s 0 0 ⟨#[]⟩ w
  rw [sameB_iff] at hq
  obtain ⟨q, hqq⟩ : ∃ q, decide (((a, b, s) : Sc) = (0, 0, ⟨#[]⟩)) = q := ⟨_, rfl⟩
  rw [hqq] at hq ⊢
  clear hqq
  go_enter Tryz.func114, Tryz.ntmps114
  go_wp2_with fail
  go_ret
  exact ⟨rfl, (Below.refl _ _).alloc (Nat.le_refl _) _⟩
theorem isPaired_any (k a b : Int) (s : ByteArray) (pk : Option Addr) (nk ck : Nat) (pd : Option Addr) (nd cd : Nat) (n : Int) (w : World) :
    Calls Tryz.prog 76 #[.agg #[.int .i64 k, .int .i64 a, .int .i64 b, .string s, .slice pk nk ck, .slice pd nd cd, .int .i64 n]] w fun e w' => e = .returned (.bool (if k = 2 then decide (nk = nd) else false)) ∧ Below w.heap.size w w' := by
  by_cases h : k = 2
  all_goals
    first | rw [if_pos h] | rw [if_neg h]
    first
      | (have h1 : (k == 2) = true := by simp [h]; done)
      | skip
    go_enter Tryz.func76, Tryz.ntmps76
    go_wp2_with fail
    all_goals
      go_ret
      refine ⟨ret_bool ?_, (Below.refl _ _).alloc (Nat.le_refl _) _⟩
      first | rfl | (rw [Bool.eq_iff_iff]; simp; done) | (rw [Bool.eq_iff_iff]; simp; omega)
end Go.Proofs.YtepelpmkmhhokaaGreatDoor

set_option maxRecDepth 100000
namespace Go.Proofs.YtepelpmkmhhokaaGreatDoor
open Go.RowKit Go.Shelf
open Scs
/-- a function value that tells b of V -/
def RuleV (w : World) (V v : Value) (b : Bool) : Prop := ∃ g lb, v = .func (.func g) #[] lb ∧ (∀ args w, (callFunc g args).run Tryz.prog w = .ok (.enter g args) w) ∧
  ∀ W, Below w.heap.size w W → Calls Tryz.prog g (#[V] ++ lb) W fun e W' => e = .returned (.bool b) ∧ Below W.heap.size W W'
theorem RuleV.below {w w' : World} {V v : Value} {b : Bool} (h : RuleV w V v b) (hb : Below w.heap.size w w') : RuleV w' V v b := by
  obtain ⟨g, lb, hv, eg, hC⟩ := h
  exact ⟨g, lb, hv, eg, fun W hW => hC W (hb.trans (hW.mono hb.size))⟩
set_option maxHeartbeats 2000000 in
theorem follows_any (k a b : Int) (s : ByteArray) (pk : Option Addr) (nk ck : Nat) (pd : Option Addr) (nd cd : Nat) (n : Int) (br c : Nat) (bs : List Bool) (hl : bs.length ≤ 1000) (w : World) (hbr : br < w.heap.size)
    (hR : ∀ j (hj : j < bs.length), ∃ v, w.cell? ⟨br, j, none⟩ = some v ∧ RuleV w (.agg #[.int .i64 k, .int .i64 a, .int .i64 b, .string s, .slice pk nk ck, .slice pd nd cd, .int .i64 n]) v bs[j]) :
    Calls Tryz.prog 110 #[.agg #[.int .i64 k, .int .i64 a, .int .i64 b, .string s, .slice pk nk ck, .slice pd nd cd, .int .i64 n], .slice (some ⟨br, 0, none⟩) bs.length c] w fun e w' => e = .returned (.bool (bs.all id)) ∧ Below w.heap.size w w' := by
  have HR := Lib.hid hR
  clear hR
  obtain ⟨m, hm⟩ : ∃ m, bs.length = m := ⟨_, rfl⟩
  have HM := Lib.hid hm
  have hl2 : m ≤ 1000 := by omega
  rw [hm]
  clear hm hl
  go_enter Tryz.func110, Tryz.ntmps110
  go_wp2_with fail
  go_loopw [6, 9] (fun _ i wr => ∃ j : Nat, j ≤ m ∧ i = .int .i64 j ∧ (∀ t (ht : t < bs.length), t < j → bs[t] = true) ∧ wr.heap[w.heap.size]? = some (.cells #[.int .i64 k, .int .i64 a, .int .i64 b, .string s, .slice pk nk ck, .slice pd nd cd, .int .i64 n] 151 (0, 0)) ∧ Below w.heap.size w wr) (fun _ i _ => m - (intOf i).toNat)
  case atStart => exact ⟨0, Nat.zero_le _, rfl, fun t _ h => absurd h (Nat.not_lt_zero _), heap_alloc_new w _, (Below.refl _ _).alloc (Nat.le_refl _) _⟩
  case round =>
    obtain ⟨j, hj, rfl, hok, hx, hbw⟩ := hrel
    have HOK := Lib.hid hok
    have HX := Lib.hid hx
    have HBW := Lib.hid hbw
    clear hok hx hbw
    by_cases hlt : j < m
    · obtain ⟨v, hv, g, lb, rfl, eg, hC⟩ := HR.out j (by rw [HM.out]; exact hlt)
      have hv2 := (HBW.out.cell (p := ⟨br, j, none⟩) hbr).trans hv
      obtain ⟨f, hf⟩ : ∃ f, bs[j]'(by rw [HM.out]; exact hlt) = f := ⟨_, rfl⟩
      rw [hf] at hC
      have hC2 := hC wr HBW.out
      have HF := Lib.hid hf
      have HC := Lib.hid hC2
      have p0 : wr.cell? ⟨w.heap.size, 0, none⟩ = some (.int .i64 k) := cell_of_row _ _ 0 _ _ _ HX.out
      have p1 : wr.cell? ⟨w.heap.size, 1, none⟩ = some (.int .i64 a) := cell_of_row _ _ 1 _ _ _ HX.out
      have p2 : wr.cell? ⟨w.heap.size, 2, none⟩ = some (.int .i64 b) := cell_of_row _ _ 2 _ _ _ HX.out
      have p3 : wr.cell? ⟨w.heap.size, 3, none⟩ = some (.string s) := cell_of_row _ _ 3 _ _ _ HX.out
      have p4 : wr.cell? ⟨w.heap.size, 4, none⟩ = some (.slice pk nk ck) := cell_of_row _ _ 4 _ _ _ HX.out
      have p5 : wr.cell? ⟨w.heap.size, 5, none⟩ = some (.slice pd nd cd) := cell_of_row _ _ 5 _ _ _ HX.out
      have p6 : wr.cell? ⟨w.heap.size, 6, none⟩ = some (.int .i64 n) := cell_of_row _ _ 6 _ _ _ HX.out
      clear hC hC2 hf hv
      cases f
      · go_wp2_with fail
        refine HC.out.mono ?_
        rintro e w5 ⟨rfl, hb5⟩
        have HB5 := Lib.hid (HBW.out.trans (hb5.mono HBW.out.size))
        clear hb5
        go_wp2_with fail
        go_ret
        refine ⟨ret_bool ?_, HB5.out⟩
        symm
        rw [List.all_eq_false]
        exact ⟨bs[j]'(by rw [HM.out]; exact hlt), List.getElem_mem _, by rw [HF.out]; decide⟩
      · go_wp2_with fail
        refine HC.out.mono ?_
        rintro e w5 ⟨rfl, hb5⟩
        have hx5 := (hb5.block w.heap.size (Array.getElem?_eq_some_iff.1 HX.out).1).trans HX.out
        have HX5 := Lib.hid hx5
        have HB5 := Lib.hid (HBW.out.trans (hb5.mono HBW.out.size))
        clear hb5 hx5
        go_wp2_with fail
        go_roundw
        case rel =>
          refine ⟨j + 1, by omega, by go_num, fun t ht hlt2 => ?_, HX5.out, HB5.out⟩
          rcases Nat.lt_or_ge t j with h | h
          · exact HOK.out t ht h
          · obtain rfl : t = j := by omega
            exact HF.out
        case measure => simp [intOf]; omega
    · go_wp2_with fail
      go_ret
      refine ⟨ret_bool ?_, HBW.out⟩
      symm
      rw [List.all_eq_true]
      intro z hz
      obtain ⟨t, ht, rfl⟩ := List.getElem_of_mem hz
      exact HOK.out t ht (by have := HM.out; omega)
end Go.Proofs.YtepelpmkmhhokaaGreatDoor

set_option maxRecDepth 100000
namespace Go.Proofs.YtepelpmkmhhokaaGreatDoor
open Go.RowKit Go.Shelf
open Scs
theorem any_take_snoc {α : Type} [Inhabited α] (l : Array α) (p : α → Bool) (j : Nat) (hj : j < l.size) : (l.toList.take (j + 1)).any p = ((l.toList.take j).any p || p l[j]!) := by
  rw [List.take_add_one, Array.getElem?_toList, Array.getElem?_eq_getElem hj, getElem!_pos l j hj]
  simp
theorem any_of_take {α : Type} {l : List α} {p : α → Bool} {j : Nat} (h : (l.take j).any p = true) : l.any p = true := by
  rw [List.any_eq_true] at h ⊢
  obtain ⟨x, hx, hp⟩ := h
  exact ⟨x, List.mem_of_mem_take hx, hp⟩
set_option maxHeartbeats 2000000 in
theorem indexI_any (g : Nat) (lb : Array Value) (p : Int → Bool) (l : Array Int) (a : Option Addr) (c : Nat) (w : World) (hl : Il w a l) (eg : ∀ args w, (callFunc g args).run Tryz.prog w = .ok (.enter g args) w)
    (hC : ∀ W, Below w.heap.size w W → ∀ z, Calls Tryz.prog g (#[.int .i64 z] ++ lb) W fun e W' => e = .returned (.bool (p z)) ∧ Below W.heap.size W W') :
    Calls Tryz.prog 146 #[.slice a l.size c, .func (.func g) #[] lb] w fun e w' => (∃ m : Int, e = .returned (.int .i64 m) ∧ (0 ≤ m ↔ l.toList.any p = true)) ∧ Below w.heap.size w w' := by
  have hsm := hl.small
  have HL := Lib.hid hl
  have HC := Lib.hid hC
  have hgs := fun j h => any_take_snoc l p j h
  have htk : l.toList.take l.size = l.toList := List.take_length
  obtain ⟨m, hm⟩ : ∃ m, l.size = m := ⟨_, rfl⟩
  have HM := Lib.hid hm
  rw [hm] at hsm hgs htk ⊢
  obtain ⟨R, hR⟩ : ∃ R, l.toList.any p = R := ⟨_, rfl⟩
  have HRR := Lib.hid hR
  rw [hR]
  clear hR
  have HGS := Lib.hid hgs
  have HTK := Lib.hid htk
  clear hl hC hm hgs htk
  go_enter Tryz.func146, Tryz.ntmps146
  go_wp2_with fail
  go_loopw [5, 8] (fun _ i wr => ∃ j : Nat, j ≤ m ∧ i = .int .i64 j ∧ (l.toList.take j).any p = false ∧ Below w.heap.size w wr) (fun _ i _ => m - (intOf i).toNat)
  case atStart => exact ⟨0, Nat.zero_le _, rfl, rfl, Below.refl _ _⟩
  case round =>
    obtain ⟨j, hj, rfl, hok, hbw⟩ := hrel
    have HOK := Lib.hid hok
    have HBW := Lib.hid hbw
    clear hok hbw
    by_cases hlt : j < m
    · have i1 : (j : Int) < (m : Int) := by omega
      obtain ⟨blk, off, rfl, hbl, hc0⟩ := HL.out.at j (by rw [HM.out]; exact hlt)
      have x0 := (HBW.out.cell (p := ⟨blk, off + j, none⟩) hbl).trans hc0
      have hC2 := HC.out wr HBW.out l[j]!
      have hst := HGS.out j hlt
      obtain ⟨z, hz⟩ : ∃ z, l[j]! = z := ⟨_, rfl⟩
      rw [hz] at x0 hC2 hst
      have HC2 := Lib.hid hC2
      clear hC2 hz hc0
      cases hp : p z
      · rw [hp, HOK.out] at hst
        have HST := Lib.hid hst
        have hcc := HC2.out
        rw [hp] at hcc
        have HCC := Lib.hid hcc
        clear hst hp hcc
        go_wp2_with fail
        refine HCC.out.mono ?_
        rintro e w5 ⟨rfl, hb5⟩
        have HB5 := Lib.hid (HBW.out.trans (hb5.mono HBW.out.size))
        clear hb5 x0
        go_wp2_with fail
        go_roundw
        case rel => exact ⟨j + 1, by omega, by go_num, HST.out, HB5.out⟩
        case measure => simp [intOf]; omega
      · rw [hp, Bool.or_true] at hst
        have HST := Lib.hid hst
        have hcc := HC2.out
        rw [hp] at hcc
        have HCC := Lib.hid hcc
        clear hst hp hcc
        go_wp2_with fail
        refine HCC.out.mono ?_
        rintro e w5 ⟨rfl, hb5⟩
        have HB5 := Lib.hid (HBW.out.trans (hb5.mono HBW.out.size))
        clear hb5 x0
        go_wp2_with fail
        go_ret
        exact ⟨⟨_, rfl, ⟨fun _ => HRR.out ▸ any_of_take HST.out, fun _ => by omega⟩⟩, HB5.out⟩
    · have i1 : ¬ (j : Int) < (m : Int) := by omega
      obtain rfl : j = m := by omega
      have hf := HOK.out
      rw [HTK.out] at hf
      have HF := Lib.hid hf
      clear hf
      go_wp2_with fail
      go_ret
      exact ⟨⟨_, rfl, ⟨fun h => absurd h (by decide), fun h => by rw [← HRR.out, HF.out] at h; cases h⟩⟩, HBW.out⟩
theorem containsI_any (g : Nat) (lb : Array Value) (p : Int → Bool) (l : Array Int) (a : Option Addr) (c : Nat) (w : World) (hl : Il w a l) (eg : ∀ args w, (callFunc g args).run Tryz.prog w = .ok (.enter g args) w)
    (hC : ∀ W, Below w.heap.size w W → ∀ z, Calls Tryz.prog g (#[.int .i64 z] ++ lb) W fun e W' => e = .returned (.bool (p z)) ∧ Below W.heap.size W W') :
    Calls Tryz.prog 134 #[.slice a l.size c, .func (.func g) #[] lb] w fun e w' => e = .returned (.bool (l.toList.any p)) ∧ Below w.heap.size w w' := by
  have h := indexI_any g lb p l a c w hl eg hC
  have HH := Lib.hid h
  clear h hl hC
  go_enter Tryz.func134, Tryz.ntmps134
  go_wp2_with fail
  refine HH.out.mono ?_
  rintro e w5 ⟨⟨m, rfl, hm⟩, hb5⟩
  have HB5 := Lib.hid hb5
  have HM := Lib.hid hm
  clear hb5 hm
  go_wp2_with fail
  go_ret
  refine ⟨ret_bool ?_, HB5.out⟩
  rw [Bool.eq_iff_iff, ← HM.out]
  simp
set_option maxHeartbeats 2000000 in
theorem indexS_any (g : Nat) (lb : Array Value) (p : Sc → Bool) (l : Array Sc) (a : Option Addr) (c : Nat) (w : World) (hl : Sl w a l) (eg : ∀ args w, (callFunc g args).run Tryz.prog w = .ok (.enter g args) w)
    (hC : ∀ W, Below w.heap.size w W → ∀ j, j < l.size → Calls Tryz.prog g (#[aggS l[j]!] ++ lb) W fun e W' => e = .returned (.bool (p l[j]!)) ∧ Below W.heap.size W W') :
    Calls Tryz.prog 147 #[.slice a l.size c, .func (.func g) #[] lb] w fun e w' => (∃ m : Int, e = .returned (.int .i64 m) ∧ (0 ≤ m ↔ l.toList.any p = true)) ∧ Below w.heap.size w w' := by
  have hsm := hl.small
  have HL := Lib.hid hl
  have HC := Lib.hid hC
  have hgs := fun j h => any_take_snoc l p j h
  have htk : l.toList.take l.size = l.toList := List.take_length
  obtain ⟨m, hm⟩ : ∃ m, l.size = m := ⟨_, rfl⟩
  have HM := Lib.hid hm
  rw [hm] at hsm hgs htk ⊢
  obtain ⟨R, hR⟩ : ∃ R, l.toList.any p = R := ⟨_, rfl⟩
  have HRR := Lib.hid hR
  rw [hR]
  clear hR
  have HGS := Lib.hid hgs
  have HTK := Lib.hid htk
  clear hl hC hm hgs htk
  go_enter Tryz.func147, Tryz.ntmps147
  go_wp2_with fail
  go_loopw [5, 8] (fun _ i wr => ∃ j : Nat, j ≤ m ∧ i = .int .i64 j ∧ (l.toList.take j).any p = false ∧ Below w.heap.size w wr) (fun _ i _ => m - (intOf i).toNat)
  case atStart => exact ⟨0, Nat.zero_le _, rfl, rfl, Below.refl _ _⟩
  case round =>
    obtain ⟨j, hj, rfl, hok, hbw⟩ := hrel
    have HOK := Lib.hid hok
    have HBW := Lib.hid hbw
    clear hok hbw
    by_cases hlt : j < m
    · have i1 : (j : Int) < (m : Int) := by omega
      obtain ⟨blk, off, rfl, hbl, hc0, hc1, hc2⟩ := HL.out.at j (by rw [HM.out]; exact hlt)
      have x0 := (HBW.out.cell (p := ⟨blk, off + j * 3, none⟩) hbl).trans hc0
      have x1 := (HBW.out.cell (p := ⟨blk, off + j * 3 + 1, none⟩) hbl).trans hc1
      have x2 := (HBW.out.cell (p := ⟨blk, off + j * 3 + 2, none⟩) hbl).trans hc2
      have hC2 := HC.out wr HBW.out j (by rw [HM.out]; exact hlt)
      have hst := HGS.out j hlt
      obtain ⟨z, hz⟩ : ∃ z, l[j]! = z := ⟨_, rfl⟩
      rw [hz] at x0 x1 x2 hC2 hst
      unfold aggS at hC2
      have HC2 := Lib.hid hC2
      clear hC2 hz hc0 hc1 hc2
      cases hp : p z
      · rw [hp, HOK.out] at hst
        have HST := Lib.hid hst
        have hcc := HC2.out
        rw [hp] at hcc
        have HCC := Lib.hid hcc
        clear hst hp hcc
        go_wp2_with fail
        refine HCC.out.mono ?_
        rintro e w5 ⟨rfl, hb5⟩
        have HB5 := Lib.hid (HBW.out.trans (hb5.mono HBW.out.size))
        clear hb5 x0 x1 x2
        go_wp2_with fail
        go_roundw
        case rel => exact ⟨j + 1, by omega, by go_num, HST.out, HB5.out⟩
        case measure => simp [intOf]; omega
      · rw [hp, Bool.or_true] at hst
        have HST := Lib.hid hst
        have hcc := HC2.out
        rw [hp] at hcc
        have HCC := Lib.hid hcc
        clear hst hp hcc
        go_wp2_with fail
        refine HCC.out.mono ?_
        rintro e w5 ⟨rfl, hb5⟩
        have HB5 := Lib.hid (HBW.out.trans (hb5.mono HBW.out.size))
        clear hb5 x0 x1 x2
        go_wp2_with fail
        go_ret
        exact ⟨⟨_, rfl, ⟨fun _ => HRR.out ▸ any_of_take HST.out, fun _ => by omega⟩⟩, HB5.out⟩
    · have i1 : ¬ (j : Int) < (m : Int) := by omega
      obtain rfl : j = m := by omega
      have hf := HOK.out
      rw [HTK.out] at hf
      have HF := Lib.hid hf
      clear hf
      go_wp2_with fail
      go_ret
      exact ⟨⟨_, rfl, ⟨fun h => absurd h (by decide), fun h => by rw [← HRR.out, HF.out] at h; cases h⟩⟩, HBW.out⟩
theorem containsS_any (g : Nat) (lb : Array Value) (p : Sc → Bool) (l : Array Sc) (a : Option Addr) (c : Nat) (w : World) (hl : Sl w a l) (eg : ∀ args w, (callFunc g args).run Tryz.prog w = .ok (.enter g args) w)
    (hC : ∀ W, Below w.heap.size w W → ∀ j, j < l.size → Calls Tryz.prog g (#[aggS l[j]!] ++ lb) W fun e W' => e = .returned (.bool (p l[j]!)) ∧ Below W.heap.size W W') :
    Calls Tryz.prog 135 #[.slice a l.size c, .func (.func g) #[] lb] w fun e w' => e = .returned (.bool (l.toList.any p)) ∧ Below w.heap.size w w' := by
  have h := indexS_any g lb p l a c w hl eg hC
  have HH := Lib.hid h
  clear h hl hC
  go_enter Tryz.func135, Tryz.ntmps135
  go_wp2_with fail
  refine HH.out.mono ?_
  rintro e w5 ⟨⟨m, rfl, hm⟩, hb5⟩
  have HB5 := Lib.hid hb5
  have HM := Lib.hid hm
  clear hb5 hm
  go_wp2_with fail
  go_ret
  refine ⟨ret_bool ?_, HB5.out⟩
  rw [Bool.eq_iff_iff, ← HM.out]
  simp
end Go.Proofs.YtepelpmkmhhokaaGreatDoor
