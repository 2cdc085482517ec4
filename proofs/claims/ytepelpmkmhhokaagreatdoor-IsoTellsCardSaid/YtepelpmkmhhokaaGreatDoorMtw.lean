/- A map whose keys are scalars tells which were put in. Conditions: none. Whether one of some scalars is there more than once is told as the document tells it. Conditions: the scalars lie in a row. A map whose keys are numbers tells what was put in. Conditions: none. A map whose keys are pairs tells which were put in. Conditions: none. -/
import Derived.Test.YtepelpmkmhhokaaGreatDoorRux
import Derived.MapKept
import Derived.WideKeyRuns
import Derived.Shelf.RegionOpen
set_option maxRecDepth 100000
namespace Go.Proofs.YtepelpmkmhhokaaGreatDoor
open Go.RowKit Go.Shelf
open Scs
/-- the entries of those that were met, in order -/
def entS : List Sc → Nat → List MapEntry
  | [], _ => []
  | x :: t, i => { key := aggS x, val := .bool true, born := i } :: entS t (i + 1)
theorem entS_len : ∀ (L : List Sc) (i : Nat), (entS L i).length = L.length
  | [], _ => rfl
  | _ :: t, i => by simp [entS, entS_len t (i + 1)]
theorem entS_snoc (x : Sc) : ∀ (L : List Sc) (i : Nat), entS (L ++ [x]) i = entS L i ++ [{ key := aggS x, val := .bool true, born := i + L.length }]
  | [], i => by simp [entS]
  | y :: t, i => by
    simp only [List.cons_append, entS, entS_snoc x t (i + 1), List.length_cons, List.cons.injEq, true_and]
    congr 2
    simp only [MapEntry.mk.injEq, true_and]
    omega
theorem check_any (em : Bool) (x : Sc) (w : World) : (Instr.checkKey em 10000 48 (aggS x)).run Tryz.prog w = .ok () w := by
  have u3 := Tryz.underlying3
  have a3 := Tryz.isAgg3
  have z3 := Tryz.sizeOf3
  have u9 := Tryz.underlying9
  have a9 := Tryz.isAgg9
  have z9 := Tryz.sizeOf9
  unfold aggS
  rw [show (10000 : Nat) = 9998 + 1 + 1 from rfl]
  unfold Instr.checkKey
  simp only []
  go_simp
  rw [show (9999 : Nat) = 9998 + 1 from rfl, MapKept.run_checkKey (k := .int .i64 x.1) u3 (by simp [MapKept.IsKey]) em 9998]
  simp only [Result.andThen_ok]
  rw [MapKept.run_checkKey (k := .int .i64 x.2.1) u3 (by simp [MapKept.IsKey]) em 9998]
  simp only [Result.andThen_ok]
  exact MapKept.run_checkKey (k := .string x.2.2) u9 (by simp [MapKept.IsKey]) em 9998
theorem equal_sc' (x y : Sc) (w : World) : (Op.equal 48 (aggS x) (aggS y)).run Tryz.prog w = .ok (decide (x = y)) w := by
  obtain ⟨k, n, s⟩ := x
  obtain ⟨k2, n2, s2⟩ := y
  rw [← sameB_iff]
  exact equal_sc k n s k2 n2 s2 w
theorem find_any (x : Sc) (w : World) : ∀ (L : List Sc) (i j : Nat), ∃ r, (Instr.findAsking 48 (aggS x) (entS L i) j).run Tryz.prog w = .ok r w ∧ (x ∈ L → ∃ m, r = some (m, .bool true)) ∧ (x ∉ L → r = none)
  | [], i, j => ⟨none, rfl, fun h => absurd h (by simp), fun _ => rfl⟩
  | y :: t, i, j => by
    obtain ⟨r, h1, h2, h3⟩ := find_any x w t (i + 1) (j + 1)
    by_cases h : x = y
    · refine ⟨some (j, .bool true), ?_, fun _ => ⟨j, rfl⟩, fun hn => absurd (by rw [h]; simp) hn⟩
      simp only [entS, Instr.findAsking]
      have := equal_sc' x y w
      rw [decide_eq_true h] at this
      subst h
      go_simp
    · refine ⟨r, ?_, fun hm => h2 (by simpa [h] using hm), fun hn => h3 (fun hm => hn (List.mem_cons_of_mem _ hm))⟩
      simp only [entS, Instr.findAsking]
      have := equal_sc' x y w
      rw [decide_eq_false h] at this
      go_simp
theorem findKey_any (x : Sc) (w : World) (L : List Sc) : ∃ r, (Instr.findKey 48 (aggS x) (entS L 0)).run Tryz.prog w = .ok r w ∧ (x ∈ L → ∃ m, r = some (m, .bool true)) ∧ (x ∉ L → r = none) := by
  obtain ⟨r, h1, h2⟩ := find_any x w L 0 0
  exact ⟨r, by rw [run_findKey_eq w (by rw [Tryz.underlying48])]; exact h1, h2⟩
/-- is one among some? -/
def inL (x : Sc) (L : List Sc) : Bool := L.any fun y => decide (x = y)
theorem inL_true {x : Sc} {L : List Sc} (h : x ∈ L) : inL x L = true := List.any_eq_true.2 ⟨x, h, by simp⟩
theorem inL_false {x : Sc} {L : List Sc} (h : x ∉ L) : inL x L = false := List.any_eq_false.2 fun y hy => by
  intro e
  have e := of_decide_eq_true e
  exact h (e ▸ hy)
theorem inL_iff {x : Sc} {L : List Sc} : inL x L = true ↔ x ∈ L := by
  constructor
  · intro h
    refine Classical.byContradiction fun hn => ?_
    rw [inL_false hn] at h
    cases h
  · exact inL_true
theorem lookup_met (w : World) (b : Nat) (x : Sc) (L : List Sc) (c : Nat) (hb : w.heap[b]? = some (.map (entS L 0).toArray c)) :
    (Instr.lookup 234 (.map (some b)) (aggS x) false).run Tryz.prog w = .ok (.bool (inL x L)) w := by
  have hc : ∀ em, (Instr.checkKey em 10000 48 (aggS x)).run Tryz.prog w = .ok () w := fun em => check_any em x w
  obtain ⟨r, hf, h1, h2⟩ := findKey_any x w L
  have hz : (zeroValue 4).run Tryz.prog w = .ok (.bool false) w := by kernel_rfl
  by_cases h : x ∈ L
  · obtain ⟨m, rfl⟩ := h1 h
    rw [inL_true h]
    simp [Instr.lookup, run_underlying Tryz.underlying234, MapKept.run_getObj_map hb, hc, hf, Result.andThen]
  · obtain rfl := h2 h
    rw [inL_false h]
    simp [Instr.lookup, run_underlying Tryz.underlying234, MapKept.run_getObj_map hb, hc, hf, hz, Result.andThen]
theorem update_new (w : World) (b : Nat) (x : Sc) (L : List Sc) (hb : w.heap[b]? = some (.map (entS L 0).toArray L.length)) (h : x ∉ L) :
    (Instr.mapUpdate 234 (.map (some b)) (aggS x) (.bool true)).run Tryz.prog w = .ok () (w.putObj b (.map (entS (L ++ [x]) 0).toArray (L ++ [x]).length)) := by
  have hc : ∀ em, (Instr.checkKey em 10000 48 (aggS x)).run Tryz.prog w = .ok () w := fun em => check_any em x w
  obtain ⟨r, hf, _, h2⟩ := findKey_any x w L
  obtain rfl := h2 h
  rw [entS_snoc]
  simp [Instr.mapUpdate, run_underlying Tryz.underlying234, MapKept.run_getObj_map hb, hc, hf, MapKept.run_setObj_map _ hb, Result.andThen]
  rfl
end Go.Proofs.YtepelpmkmhhokaaGreatDoor

set_option maxRecDepth 100000
namespace Go.Proofs.YtepelpmkmhhokaaGreatDoor
open Go.RowKit Go.Shelf
open Scs Seqo
open Go.Sort (HoldsK)
attribute [local go_sem] Oper.semAt_some
/-- is one there twice? -/
def twiceB : List Sc → Bool
  | [] => false
  | x :: t => inL x t || twiceB t
theorem twice_nodup : ∀ {L : List Sc}, L.Nodup → twiceB L = false
  | [], _ => rfl
  | x :: t, h => by
    have h' := List.nodup_cons.1 h
    unfold twiceB
    rw [inL_false h'.1, twice_nodup h'.2]; rfl
theorem twice_of : ∀ {L : List Sc}, ¬ L.Nodup → twiceB L = true
  | [], h => absurd List.nodup_nil h
  | x :: t, h => by
    unfold twiceB
    by_cases hx : x ∈ t
    · rw [inL_true hx]; rfl
    · rw [inL_false hx, twice_of (fun hn => h (List.nodup_cons.2 ⟨hx, hn⟩))]; rfl
theorem twice_iff {L : List Sc} : twiceB L = true ↔ ¬ L.Nodup := by
  constructor
  · intro h hn; rw [twice_nodup hn] at h; cases h
  · exact twice_of
theorem take_get (d : Array Sc) (t : Nat) (ht : t < d.size) : d.toList.take (t + 1) = d.toList.take t ++ [d[t]!] := by
  rw [List.take_add_one, Array.getElem?_toList, Array.getElem?_eq_getElem ht, getElem!_pos d t ht]; rfl
theorem len_met (w : World) (b : Nat) (L : List Sc) (c : Nat) (_hL : L.length ≤ 1000000) (hb : w.heap[b]? = some (.map (entS L 0).toArray c)) : (Builtin.len_ #[234] 3 #[.map (some b)]).run Tryz.prog w = .ok (.int .i64 (L.length : Int)) w := by
  have hg : goInt (L.length : Int) = .int .i64 (L.length : Int) := by unfold goInt; go_num
  simp [Builtin.len_, run_underlying Tryz.underlying234, MapKept.run_getObj_map hb, entS_len, Result.andThen, hg]
theorem nodup_snoc {L : List Sc} {x : Sc} (h : L.Nodup) (hx : x ∉ L) : (L ++ [x]).Nodup := by
  rw [List.nodup_append]
  exact ⟨h, List.nodup_cons.2 ⟨by simp, List.nodup_nil⟩, fun a ha b hb e => by rw [List.mem_singleton.1 hb] at e; exact hx (e ▸ ha)⟩
theorem twice_at {d : Array Sc} {t : Nat} {L : List Sc} {x : Sc} (htk : d.toList.take (t + 1) = L ++ [x]) (hin : x ∈ L) : twiceB d.toList = true := by
  refine twice_of fun hn => ?_
  have := (List.take_sublist (t + 1) d.toList).nodup hn
  rw [htk, List.nodup_append] at this
  exact this.2.2 x hin x (by simp) rfl
set_option maxHeartbeats 4000000 in
theorem Twice_in (d : Array Sc) (p : Option Addr) (cap : Nat) (w : World) (hs : Sl w p d) :
    CallsIn Fence.wide 6 Tryz.prog 137 #[.slice p d.size cap] w fun e w' => e = .returned (.bool (twiceB d.toList)) ∧ Below w.heap.size w w' := by
  have hsm := hs.small
  have HSL := Lib.hid hs
  clear hs
  refine callsIn_of_wp_marks Tryz.func137 rfl trivial ?_ rfl
  simp only [Tryz.ntmps137, List.size_toArray, List.length_cons, List.length_nil, Nat.reduceAdd, Nat.reduceSub, Array.replicate_succ, Array.replicate_zero, List.push_toArray, List.append_toArray, List.nil_append, List.cons_append]
  refine wpIn_wide.2 ?_
  have hmm := @run_makeMap Tryz.prog
  go_wp2_with fail
  go_step3
  go_wp2_with fail
  go_step3
  go_wp2_with (go_at_call 85; refine (each_any p _ cap _).mono ?_; rintro e w' ⟨rfl, rfl⟩)
  obtain ⟨w3, hw3⟩ : ∃ w3, (((w.alloc (.map #[] 0)).alloc (.cells #[.map (some w.heap.size)] 234)).alloc (.cells #[.slice p d.size cap] 49)) = w3 := ⟨_, rfl⟩
  rw [hw3]
  have hz3 : w3.heap.size = w.heap.size + 3 := by rw [← hw3]; simp
  have hx3 : w3.heap[w.heap.size]? = some (.map (entS (d.toList.take 0) 0).toArray (d.toList.take 0).length) := by
    rw [← hw3, Below.heap_alloc _ _ _ (by simp; omega), Below.heap_alloc _ _ _ (by simp)]; exact heap_alloc_new w _
  have hb3 : w3.heap[w.heap.size + 1]? = some (.cells #[.map (some w.heap.size)] 234 (0, 0)) := by
    rw [← hw3, Below.heap_alloc _ _ _ (by simp)]
    have h := heap_alloc_new (w.alloc (.map #[] 0)) (.cells #[.map (some w.heap.size)] 234)
    rwa [World.size_alloc] at h
  have hs3 : w3.heap[w.heap.size + 2]? = some (.cells #[.slice p d.size cap] 49 (0, 0)) := by
    rw [← hw3]
    have h := heap_alloc_new ((w.alloc (.map #[] 0)).alloc (.cells #[.map (some w.heap.size)] 234)) (.cells #[.slice p d.size cap] 49)
    rwa [World.size_alloc, World.size_alloc] at h
  have hbl3 : Below w.heap.size w w3 := by rw [← hw3]; exact (((Below.refl _ w).alloc (Nat.le_refl _) _).alloc (by simp) _).alloc (by simp; omega) _
  clear hw3
  refine (wpIn_wide (n := 6)).1 ?_
  refine wpIn_rangeFunc_seqo rfl (by decide) (gf := 99) (lb := #[.pointer (some ⟨w.heap.size + 1 + 1, 0, none⟩)]) rfl trivial (enters_of Tryz.func99 (by kernel_rfl) rfl)
    (each_run 5 d p cap (w.heap.size + 1 + 1)) (fun _ => rfl) (.exit 0)
    (fun t W => W.heap[w.heap.size]? = some (.map (entS (d.toList.take t) 0).toArray (d.toList.take t).length) ∧ W.heap[w.heap.size + 1]? = some (.cells #[.map (some w.heap.size)] 234 (0, 0)) ∧ W.heap[w.heap.size + 2]? = some (.cells #[.slice p d.size cap] 49 (0, 0)) ∧ (d.toList.take t).Nodup ∧ Below w.heap.size w W ∧ w3.heap.size ≤ W.heap.size)
    (fun W => (∃ t, t < d.size ∧ W.heap[w.heap.size]? = some (.map (entS (d.toList.take t) 0).toArray (d.toList.take t).length)) ∧ W.heap[w.heap.size + 1]? = some (.cells #[.map (some w.heap.size)] 234 (0, 0)) ∧ twiceB d.toList = true ∧ Below w.heap.size w W ∧ w3.heap.size ≤ W.heap.size)
    ?hI ?hIx (fun t A h => ⟨cell_of_row A _ 0 _ _ _ h.2.2.1, HSL.out.below h.2.2.2.2.1⟩) ⟨hx3, hb3, hs3, by simp, hbl3, Nat.le_refl _⟩
    (fun t a' W => ∃ Bx, W.heap[Bx]? = some (.cells #[.int .i64 d[t]!.1, .int .i64 d[t]!.2.1, .string d[t]!.2.2] 48 (0, 0)) ∧
      a' = { tmps := #[.slice p d.size cap, undef, .bool false, .pointer (some ⟨w.heap.size + 1, 0, none⟩), .pointer (some ⟨Bx, 0, none⟩), .map (some w.heap.size), .slice p d.size cap, .func (.func 99) #[] #[.pointer (some ⟨w.heap.size + 1 + 1, 0, none⟩)], aggS d[t]!, undef, undef, undef, undef, undef, undef, undef, undef, undef, undef], defers := [] })
    ?hAx ?hassign ?hbody ?hdone ?hstop
  case hI =>
    rintro t A D r ⟨h1, h2, h3, h4, h5, h6⟩ hg hr
    exact ⟨(hg.block _ (by omega) (by simp; omega)).trans h1, (hg.block _ (by omega) (by simp; omega)).trans h2, (hg.block _ (by omega) (by simp; omega)).trans h3, h4, h5.trans (below_of_grown hg (by omega) (by omega)), Nat.le_trans h6 hg.size⟩
  case hIx =>
    rintro A D r ⟨⟨t, ht, h1⟩, h2, h3, h4, h5⟩ hg hr
    exact ⟨⟨t, ht, (hg.block _ (by omega) (by simp; omega)).trans h1⟩, (hg.block _ (by omega) (by simp; omega)).trans h2, h3, h4.trans (below_of_grown hg (by omega) (by omega)), Nat.le_trans h5 hg.size⟩
  case hAx =>
    rintro t a A D r ⟨Bx, h1, h2⟩ hg hne
    refine ⟨Bx, (hg.block Bx (Array.getElem?_eq_some_iff.1 h1).1 (fun e => ?_)).trans h1, h2⟩
    obtain rfl : Bx = r := by simpa using e
    exact hne _ _ _ h1
  case hassign =>
    intro l t W K ht hi hK
    obtain ⟨x, hx⟩ : ∃ x, d[t]! = x := ⟨_, rfl⟩
    rw [hx] at hK ⊢
    unfold aggS at hK ⊢
    have HKK := Lib.hid hK
    clear hK hi hx
    gi_wp2
    exact HKK.out _ _ (gB_of_below ((Below.refl _ W).alloc (Nat.le_refl _) _) none) ⟨W.heap.size, heap_alloc_new W _, rfl⟩
  case hbody =>
    rintro l t a' W ht ⟨h1, h2, h3, h4, h5, h6⟩ ⟨Bx, hbx, rfl⟩
    have htk := take_get d t ht
    obtain ⟨x, hx⟩ : ∃ x, d[t]! = x := ⟨_, rfl⟩
    obtain ⟨L, hL⟩ : ∃ L, d.toList.take t = L := ⟨_, rfl⟩
    rw [hx] at hbx htk ⊢
    rw [hL] at h1 h4 htk
    have hm1 : W.cell? ⟨w.heap.size + 1, 0, none⟩ = some (.map (some w.heap.size)) := cell_of_row _ _ 0 _ _ _ h2
    have p0 : W.cell? ⟨Bx, 0, none⟩ = some (.int .i64 x.1) := cell_of_row _ _ 0 _ _ _ hbx
    have p1 : W.cell? ⟨Bx, 1, none⟩ = some (.int .i64 x.2.1) := cell_of_row _ _ 1 _ _ _ hbx
    have p2 : W.cell? ⟨Bx, 2, none⟩ = some (.string x.2.2) := cell_of_row _ _ 2 _ _ _ hbx
    have hlk := lookup_met W w.heap.size x L _ h1
    unfold aggS at hlk ⊢
    have H1 := Lib.hid h1
    have H2 := Lib.hid h2
    have H3 := Lib.hid h3
    have H4 := Lib.hid h4
    have H5 := Lib.hid h5
    have H6 := Lib.hid h6
    have HTK := Lib.hid htk
    have HX := Lib.hid hx
    clear hbx htk hx h1 h2 h3 h4 h5 h6 hx3 hb3 hs3 hbl3 hmm
    by_cases hin : x ∈ L
    · rw [inL_true hin] at hlk
      have HIN := Lib.hid hin
      clear hin
      gi_wp2
      exact ⟨rfl, Keeps.refl _ _, ⟨t, ht, by rw [hL]; exact H1.out⟩, H2.out, twice_at HTK.out HIN.out, H5.out, H6.out⟩
    · rw [inL_false hin] at hlk
      have hup := update_new W w.heap.size x L H1.out hin
      unfold aggS at hup
      have HIN := Lib.hid hin
      obtain ⟨W5, hW5⟩ : ∃ W5, W.putObj w.heap.size (.map (entS (L ++ [x]) 0).toArray (L ++ [x]).length) = W5 := ⟨_, rfl⟩
      rw [hW5] at hup
      have HW5 := Lib.hid hW5
      clear hin hW5
      gi_wp2
      have hg : W.grownBy W5 (some w.heap.size) := by rw [← HW5.out]; exact turn W _ _
      have hz5 := H5.out.size
      have hz6 := H6.out
      have hlt : w.heap.size < W.heap.size := by omega
      refine ⟨Keeps.of_grown hg (by omega), ?_, (hg.block _ (by omega) (by simp)).trans H2.out, (hg.block _ (by omega) (by simp)).trans H3.out, ?_, H5.out.trans (below_of_grown hg (by omega) (by omega)), Nat.le_trans hz6 hg.size⟩
      · rw [HTK.out, ← HW5.out]; exact World.putObj_heap_same hlt
      · rw [HTK.out]; exact nodup_snoc H4.out HIN.out
  case hdone =>
    rintro D W hD ⟨h1, h2, h3, h4, h5, h6⟩ hK
    have hm1 : W.cell? ⟨w.heap.size + 1, 0, none⟩ = some (.map (some w.heap.size)) := cell_of_row _ _ 0 _ _ _ h2
    rw [show d.toList.take d.size = d.toList from List.take_length] at h1 h4
    clear hx3 hb3 hs3 hbl3 hmm h3
    have hlen := len_met W w.heap.size d.toList _ (by rw [Array.length_toList]; exact hsm) h1
    rw [Array.length_toList] at hlen
    have H4 := Lib.hid h4
    have H5 := Lib.hid h5
    have HK := Lib.hid hK
    clear h1 h2 h4 h5 h6 hK
    go_wp2
    rw [Exit.noGoto_ret]
    refine ⟨by simp, .inl ⟨_, _, rfl, run_takeDeferred HK.out, ?_⟩⟩
    refine ⟨.bool false, by simp [results, Tryz.results137, go_sem], by rw [twice_nodup H4.out], H5.out.trans (below_of_grown (turn W D _) (by omega) (by have := H5.out.size; omega))⟩
  case hstop =>
    rintro D W hD ⟨⟨t, ht, h1⟩, h2, h3, h4, h5⟩ hK
    have hm1 : W.cell? ⟨w.heap.size + 1, 0, none⟩ = some (.map (some w.heap.size)) := cell_of_row _ _ 0 _ _ _ h2
    clear hx3 hb3 hs3 hbl3 hmm
    have hlt : (d.toList.take t).length = t := by rw [List.length_take, Array.length_toList]; omega
    have hlen := len_met W w.heap.size (d.toList.take t) _ (by omega) h1
    rw [hlt] at hlen
    have htd : (t : Int) < (d.size : Int) := by omega
    have H3 := Lib.hid h3
    have H4 := Lib.hid h4
    have HK := Lib.hid hK
    clear h1 h2 h3 h4 h5 hK hlt
    refine wpIn_wide.2 ?_
    go_wp2_with fail
    rw [Exit.noGoto_ret]
    refine ⟨by simp, .inl ⟨_, _, rfl, run_takeDeferred HK.out, ?_⟩⟩
    refine ⟨.bool true, by simp [results, Tryz.results137, go_sem], by rw [H3.out], H4.out.trans (below_of_grown (turn W D _) (by omega) (by have := H4.out.size; omega))⟩
theorem Twice_any (d : Array Sc) (p : Option Addr) (cap : Nat) (w : World) (hs : Sl w p d) :
    Calls Tryz.prog 137 #[.slice p d.size cap] w fun e w' => e = .returned (.bool (twiceB d.toList)) ∧ Below w.heap.size w w' :=
  callsIn_wide.1 (Twice_in d p cap w hs)
end Go.Proofs.YtepelpmkmhhokaaGreatDoor

set_option maxRecDepth 100000
namespace Go.Proofs.YtepelpmkmhhokaaGreatDoor
open Go.RowKit Go.Shelf
/-- the entries of those that were put in, in order -/
def entI : List (Int × Value) → Nat → List MapEntry
  | [], _ => []
  | x :: t, i => { key := .int .i64 x.1, val := x.2, born := i } :: entI t (i + 1)
theorem entI_len : ∀ (L : List (Int × Value)) (i : Nat), (entI L i).length = L.length
  | [], _ => rfl
  | _ :: t, i => by simp [entI, entI_len t (i + 1)]
theorem entI_snoc (x : Int × Value) : ∀ (L : List (Int × Value)) (i : Nat), entI (L ++ [x]) i = entI L i ++ [{ key := .int .i64 x.1, val := x.2, born := i + L.length }]
  | [], i => by simp [entI]
  | y :: t, i => by
    simp only [List.cons_append, entI, entI_snoc x t (i + 1), List.length_cons, List.cons.injEq, true_and]
    congr 2
    simp only [MapEntry.mk.injEq, true_and]
    omega
/-- what is found -/
def findI (x : Int) : List (Int × Value) → Option Value
  | [] => none
  | y :: t => if x = y.1 then some y.2 else findI x t
theorem findI_snoc (x : Int) (y : Int × Value) : ∀ L : List (Int × Value), findI x (L ++ [y]) = match findI x L with | some v => some v | none => if x = y.1 then some y.2 else none
  | [] => rfl
  | z :: t => by
    rw [List.cons_append]
    unfold findI
    by_cases h : x = z.1
    · rw [if_pos h, if_pos h]
    · rw [if_neg h, if_neg h, findI_snoc x y t]
theorem findNow_int (x : Int) : ∀ (L : List (Int × Value)) (i j : Nat), ∃ r, Instr.findNow (.int .i64) (.int .i64 x) (entI L i) j = some r ∧ ((∃ m v, findI x L = some v ∧ r = some (m, v)) ∨ (findI x L = none ∧ r = none))
  | [], i, j => ⟨none, rfl, .inr ⟨rfl, rfl⟩⟩
  | y :: t, i, j => by
    obtain ⟨r, h1, h2⟩ := findNow_int x t (i + 1) (j + 1)
    by_cases h : x = y.1
    · refine ⟨some (j, y.2), ?_, .inl ⟨j, y.2, by unfold findI; rw [if_pos h], rfl⟩⟩
      simp [entI, Instr.findNow, Instr.sameNow, h]
    · refine ⟨r, ?_, ?_⟩
      · have hb : (x == y.1) = false := by simp [h]
        simp only [entI, Instr.findNow, Instr.sameNow, if_true, hb]
        exact h1
      · unfold findI
        rw [if_neg h]
        exact h2
theorem findKey_int (x : Int) (w : World) (L : List (Int × Value)) : ∃ r, (Instr.findKey 3 (.int .i64 x) (entI L 0)).run Tryz.prog w = .ok r w ∧ ((∃ m v, findI x L = some v ∧ r = some (m, v)) ∨ (findI x L = none ∧ r = none)) := by
  obtain ⟨r, h1, h2⟩ := findNow_int x L 0 0
  exact ⟨r, MapKept.run_findKey Tryz.underlying3 h1, h2⟩
theorem check_int (em : Bool) (x : Int) (w : World) : (Instr.checkKey em 10000 3 (.int .i64 x)).run Tryz.prog w = .ok () w := by
  rw [show (10000 : Nat) = 9999 + 1 from rfl]
  exact MapKept.run_checkKey (k := .int .i64 x) Tryz.underlying3 (by simp [MapKept.IsKey]) em 9999
/-- a map's block with such entries -/
def HasM (w : World) (b : Nat) (L : List (Int × Value)) : Prop := w.heap[b]? = some (.map (entI L 0).toArray L.length)
section
variable {T e : TypeId} (hT : Tryz.prog.underlying T = some (.map 3 e))
include hT
theorem look_int (w : World) (b : Nat) (x : Int) (L : List (Int × Value)) {z : Value} (hz : (zeroValue e).run Tryz.prog w = .ok z w) (hb : HasM w b L) :
    (Instr.lookup T (.map (some b)) (.int .i64 x) false).run Tryz.prog w = .ok ((findI x L).getD z) w := by
  have hc : ∀ em, (Instr.checkKey em 10000 3 (.int .i64 x)).run Tryz.prog w = .ok () w := fun em => check_int em x w
  obtain ⟨r, hf, ⟨m, v, h1, rfl⟩ | ⟨h1, rfl⟩⟩ := findKey_int x w L
  · simp [Instr.lookup, run_underlying hT, MapKept.run_getObj_map hb, hc, hf, h1, Result.andThen]
  · simp [Instr.lookup, run_underlying hT, MapKept.run_getObj_map hb, hc, hf, h1, hz, Result.andThen]
theorem look_int2 (w : World) (b : Nat) (x : Int) (L : List (Int × Value)) {z : Value} (hz : (zeroValue e).run Tryz.prog w = .ok z w) (hb : HasM w b L) :
    (Instr.lookup T (.map (some b)) (.int .i64 x) true).run Tryz.prog w = .ok (.tuple #[(findI x L).getD z, .bool (findI x L).isSome]) w := by
  have hc : ∀ em, (Instr.checkKey em 10000 3 (.int .i64 x)).run Tryz.prog w = .ok () w := fun em => check_int em x w
  obtain ⟨r, hf, ⟨m, v, h1, rfl⟩ | ⟨h1, rfl⟩⟩ := findKey_int x w L
  · simp [Instr.lookup, run_underlying hT, MapKept.run_getObj_map hb, hc, hf, h1, Result.andThen]
  · simp [Instr.lookup, run_underlying hT, MapKept.run_getObj_map hb, hc, hf, h1, hz, Result.andThen]
theorem put_int (w : World) (b : Nat) (x : Int) (v : Value) (L : List (Int × Value)) (hb : HasM w b L) (h : findI x L = none) :
    (Instr.mapUpdate T (.map (some b)) (.int .i64 x) v).run Tryz.prog w = .ok () (w.putObj b (.map (entI (L ++ [(x, v)]) 0).toArray (L ++ [(x, v)]).length)) := by
  have hc : ∀ em, (Instr.checkKey em 10000 3 (.int .i64 x)).run Tryz.prog w = .ok () w := fun em => check_int em x w
  obtain ⟨r, hf, ⟨m, v', h1, rfl⟩ | ⟨h1, rfl⟩⟩ := findKey_int x w L
  · rw [h] at h1; cases h1
  · rw [entI_snoc]
    simp [Instr.mapUpdate, run_underlying hT, MapKept.run_getObj_map hb, hc, hf, MapKept.run_setObj_map _ hb, Result.andThen]
    rfl
end
theorem HasM.put {w : World} {b : Nat} {L : List (Int × Value)} (hb : HasM w b L) (x : Int × Value) : HasM (w.putObj b (.map (entI (L ++ [x]) 0).toArray (L ++ [x]).length)) b (L ++ [x]) :=
  World.putObj_heap_same (Array.getElem?_eq_some_iff.1 hb).1
theorem HasM.keep {w w' : World} {b : Nat} {L : List (Int × Value)} (hb : HasM w b L) (h : w'.heap[b]? = w.heap[b]?) : HasM w' b L := h.trans hb
end Go.Proofs.YtepelpmkmhhokaaGreatDoor

set_option maxRecDepth 100000
namespace Go.Proofs.YtepelpmkmhhokaaGreatDoor
open Go.RowKit Go.Shelf
/-- a pair as a value -/
def aggP (x : Int × Int) : Value := .agg #[.int .i64 x.1, .int .i64 x.2]
/-- the entries of those that were met, in order -/
def entP : List (Int × Int) → Nat → List MapEntry
  | [], _ => []
  | x :: t, i => { key := aggP x, val := .bool true, born := i } :: entP t (i + 1)
theorem entP_len : ∀ (L : List (Int × Int)) (i : Nat), (entP L i).length = L.length
  | [], _ => rfl
  | _ :: t, i => by simp [entP, entP_len t (i + 1)]
theorem entP_snoc (x : Int × Int) : ∀ (L : List (Int × Int)) (i : Nat), entP (L ++ [x]) i = entP L i ++ [{ key := aggP x, val := .bool true, born := i + L.length }]
  | [], i => by simp [entP]
  | y :: t, i => by
    simp only [List.cons_append, entP, entP_snoc x t (i + 1), List.length_cons, List.cons.injEq, true_and]
    congr 2
    simp only [MapEntry.mk.injEq, true_and]
    omega
theorem check_pair (em : Bool) (x : Int × Int) (w : World) : (Instr.checkKey em 10000 39 (aggP x)).run Tryz.prog w = .ok () w := by
  have u3 := Tryz.underlying3
  have a3 := Tryz.isAgg3
  have z3 := Tryz.sizeOf3
  unfold aggP
  rw [show (10000 : Nat) = 9998 + 1 + 1 from rfl]
  unfold Instr.checkKey
  simp only []
  go_simp
  rw [show (9999 : Nat) = 9998 + 1 from rfl, MapKept.run_checkKey (k := .int .i64 x.1) u3 (by simp [MapKept.IsKey]) em 9998]
  simp only [Result.andThen_ok]
  exact MapKept.run_checkKey (k := .int .i64 x.2) u3 (by simp [MapKept.IsKey]) em 9998
theorem eq_pair (x y : Int × Int) (w : World) : (binOp .eql 39 (aggP x) (aggP y)).run Tryz.prog w = .ok (.bool (decide (x = y))) w := by
  obtain ⟨a, b⟩ := x
  obtain ⟨c, d⟩ := y
  have u3 := Tryz.underlying3
  have a3 := Tryz.isAgg3
  have z3 := Tryz.sizeOf3
  have hS : Tryz.prog.underlying 39 = some (.struct (Tryz.prog.fieldsOf 39)) := by kernel_rfl
  have hp : Tryz.prog.stoodInHeld 39 = false := by kernel_rfl
  unfold aggP
  rw [run_eql_struct, show (10000 : Nat) = 9999 + 1 from rfl, run_equalIn_agg w 9999 39 _ _ hS hp]
  simp only [Program.fieldsOf, Tryz.underlying39]
  go_simp
  by_cases h1 : a = c <;> by_cases h2 : b = d <;> simp [h1, h2]
theorem equal_pair (x y : Int × Int) (w : World) : (Op.equal 39 (aggP x) (aggP y)).run Tryz.prog w = .ok (decide (x = y)) w := by
  have h := eq_pair x y w
  unfold aggP at h ⊢
  rw [run_eql_struct] at h
  change (Op.equalIn 10000 39 _ _).run Tryz.prog w = _
  cases hr : (Op.equalIn 10000 39 (.agg #[.int .i64 x.1, .int .i64 x.2]) (.agg #[.int .i64 y.1, .int .i64 y.2])).run Tryz.prog w with
  | ok b w' =>
    rw [hr] at h
    simp only [Result.andThen_ok, Result.ok.injEq, Value.bool.injEq] at h
    obtain ⟨rfl, rfl⟩ := h
    rfl
  | halt x w' =>
    rw [hr] at h
    simp [Result.andThen] at h
theorem guard_pair (op : BinOp) (a b : Operand) (x y : Int × Int) (w : World) : (eqGuard op 39 a b (aggP x) (aggP y)).run Tryz.prog w = .ok () w :=
  run_eqGuard_agg w op 39 a b _ _ (by kernel_rfl)
theorem find_pair (x : Int × Int) (w : World) : ∀ (L : List (Int × Int)) (i j : Nat), ∃ r, (Instr.findAsking 39 (aggP x) (entP L i) j).run Tryz.prog w = .ok r w ∧ (x ∈ L → ∃ m, r = some (m, .bool true)) ∧ (x ∉ L → r = none)
  | [], i, j => ⟨none, rfl, fun h => absurd h (by simp), fun _ => rfl⟩
  | y :: t, i, j => by
    obtain ⟨r, h1, h2, h3⟩ := find_pair x w t (i + 1) (j + 1)
    by_cases h : x = y
    · refine ⟨some (j, .bool true), ?_, fun _ => ⟨j, rfl⟩, fun hn => absurd (by rw [h]; simp) hn⟩
      simp only [entP, Instr.findAsking]
      have := equal_pair x y w
      rw [decide_eq_true h] at this
      subst h
      go_simp
    · refine ⟨r, ?_, fun hm => h2 (by simpa [h] using hm), fun hn => h3 (fun hm => hn (List.mem_cons_of_mem _ hm))⟩
      simp only [entP, Instr.findAsking]
      have := equal_pair x y w
      rw [decide_eq_false h] at this
      go_simp
theorem findKey_pair (x : Int × Int) (w : World) (L : List (Int × Int)) : ∃ r, (Instr.findKey 39 (aggP x) (entP L 0)).run Tryz.prog w = .ok r w ∧ (x ∈ L → ∃ m, r = some (m, .bool true)) ∧ (x ∉ L → r = none) := by
  obtain ⟨r, h1, h2⟩ := find_pair x w L 0 0
  exact ⟨r, by rw [run_findKey_eq w (by rw [Tryz.underlying39])]; exact h1, h2⟩
/-- is one among some? -/
def inP (x : Int × Int) (L : List (Int × Int)) : Bool := L.any fun y => decide (x = y)
theorem inP_true {x : Int × Int} {L : List (Int × Int)} (h : x ∈ L) : inP x L = true := List.any_eq_true.2 ⟨x, h, by simp⟩
theorem inP_false {x : Int × Int} {L : List (Int × Int)} (h : x ∉ L) : inP x L = false := List.any_eq_false.2 fun y hy => by
  intro e
  have e := of_decide_eq_true e
  exact h (e ▸ hy)
/-- a map's block with such entries -/
def HasP (w : World) (b : Nat) (L : List (Int × Int)) : Prop := w.heap[b]? = some (.map (entP L 0).toArray L.length)
theorem look_pair (w : World) (b : Nat) (x : Int × Int) (L : List (Int × Int)) (hb : HasP w b L) :
    (Instr.lookup 122 (.map (some b)) (aggP x) false).run Tryz.prog w = .ok (.bool (inP x L)) w := by
  have hc : ∀ em, (Instr.checkKey em 10000 39 (aggP x)).run Tryz.prog w = .ok () w := fun em => check_pair em x w
  obtain ⟨r, hf, h1, h2⟩ := findKey_pair x w L
  have hz : (zeroValue 4).run Tryz.prog w = .ok (.bool false) w := by kernel_rfl
  by_cases h : x ∈ L
  · obtain ⟨m, rfl⟩ := h1 h
    rw [inP_true h]
    simp [Instr.lookup, run_underlying Tryz.underlying122, MapKept.run_getObj_map hb, hc, hf, Result.andThen]
  · obtain rfl := h2 h
    rw [inP_false h]
    simp [Instr.lookup, run_underlying Tryz.underlying122, MapKept.run_getObj_map hb, hc, hf, hz, Result.andThen]
theorem put_pair (w : World) (b : Nat) (x : Int × Int) (L : List (Int × Int)) (hb : HasP w b L) (h : x ∉ L) :
    (Instr.mapUpdate 122 (.map (some b)) (aggP x) (.bool true)).run Tryz.prog w = .ok () (w.putObj b (.map (entP (L ++ [x]) 0).toArray (L ++ [x]).length)) := by
  have hc : ∀ em, (Instr.checkKey em 10000 39 (aggP x)).run Tryz.prog w = .ok () w := fun em => check_pair em x w
  obtain ⟨r, hf, _, h2⟩ := findKey_pair x w L
  obtain rfl := h2 h
  rw [entP_snoc]
  simp [Instr.mapUpdate, run_underlying Tryz.underlying122, MapKept.run_getObj_map hb, hc, hf, MapKept.run_setObj_map _ hb, Result.andThen]
  rfl
theorem HasP.put {w : World} {b : Nat} {L : List (Int × Int)} (hb : HasP w b L) (x : Int × Int) : HasP (w.putObj b (.map (entP (L ++ [x]) 0).toArray (L ++ [x]).length)) b (L ++ [x]) :=
  World.putObj_heap_same (Array.getElem?_eq_some_iff.1 hb).1
theorem HasP.keep {w w' : World} {b : Nat} {L : List (Int × Int)} (hb : HasP w b L) (h : w'.heap[b]? = w.heap[b]?) : HasP w' b L := h.trans hb
end Go.Proofs.YtepelpmkmhhokaaGreatDoor
