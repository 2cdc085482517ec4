/- Which nodes are right, of each kind, is told as the document tells it. Conditions: the surroundings; the node's keys and kids lie. -/
import Derived.Test.YtfpcjdopfodfnaaGreatDoorArr
import Derived.Laws.EntriesVeiled
import Derived.Deep.RegionHeld
import Derived.Deep.RegionHeld3
import Derived.BigQuiet
import Derived.Deep.QuietTactic
set_option maxRecDepth 100000
namespace Go.Proofs.YtfpcjdopfodfnaaGreatDoor
open Go.RowKit Go.Shelf
open Scs
def nullS : Sc := (0, 0, ⟨#[]⟩)
theorem rule_one {w : World} {V : Value} {g : Nat} {b : Bool} (eg : ∀ args w, (callFunc g args).run Tryz.prog w = .ok (.enter g args) w) (h : ∀ W, Below w.heap.size w W → Calls Tryz.prog g #[V] W fun e W' => e = .returned (.bool b) ∧ Below W.heap.size W W') :
    RuleV w V (.func (.func g) #[] #[]) b := ⟨g, #[], rfl, eg, fun W hW => by rw [Array.append_empty]; exact h W hW⟩
theorem rScalar {f : Fn} {n : Int} {w : World} (E : Env w) (h : Nl w f) : RuleV w (vV f n) (.func (.func 75) #[] #[]) (rightS f.x) :=
  rule_one (enters_of Tryz.func75 (by kernel_rfl) rfl) fun W hW => saysScalar_any f n W (E.below hW) (h.below hW)
theorem rNoKeys {f : Fn} {n : Int} {w : World} : RuleV w (vV f n) (.func (.func 76) #[] #[]) (decide (f.keys.size = 0)) :=
  rule_one (enters_of Tryz.func76 (by kernel_rfl) rfl) fun W _ => hasNoKeys_any _ _ _ _ _ _ _ _ _ _ _ W
theorem rNoKids {f : Fn} {n : Int} {w : World} : RuleV w (vV f n) (.func (.func 77) #[] #[]) (decide (f.kids.size = 0)) :=
  rule_one (enters_of Tryz.func77 (by kernel_rfl) rfl) fun W _ => hasNoKids_any _ _ _ _ _ _ _ _ _ _ _ W
theorem rNull {f : Fn} {n : Int} {w : World} : RuleV w (vV f n) (.func (.func 78) #[] #[]) (decide (f.x = nullS)) :=
  rule_one (enters_of Tryz.func78 (by kernel_rfl) rfl) fun W _ => saysNull_any _ _ _ _ _ _ _ _ _ _ _ W
theorem rPaired {f : Fn} {n : Int} {w : World} : RuleV w (vV f n) (.func (.func 33) #[] #[]) (if f.k = 2 then decide (f.keys.size = f.kids.size) else false) :=
  rule_one (enters_of Tryz.func33 (by kernel_rfl) rfl) fun W _ => isPaired_any _ _ _ _ _ _ _ _ _ _ _ W
def nodesB (f : Fn) (n : Int) : Bool := !(f.kids.toList.any fun z => !plB z n)
def keysB (f : Fn) : Bool := if (f.keys.toList.any fun x => !rightS x) = true then false else !twiceB f.keys.toList
theorem rNodes {f : Fn} {n : Int} {w : World} (h : Nl w f) : RuleV w (vV f n) (.func (.func 79) #[] #[]) (nodesB f n) :=
  rule_one (enters_of Tryz.func79 (by kernel_rfl) rfl) fun W hW => hasNodes_any f n W (h.below hW)
theorem rScalars {f : Fn} {n : Int} {w : World} (E : Env w) (h : Nl w f) : RuleV w (vV f n) (.func (.func 80) #[] #[]) (keysB f) :=
  rule_one (enters_of Tryz.func80 (by kernel_rfl) rfl) fun W hW => hasScalars_any f n W (E.below hW) (h.below hW)
def oneB (f : Fn) : Bool := [rightS f.x, decide (f.keys.size = 0), decide (f.kids.size = 0)].all id
def seqB (f : Fn) (n : Int) : Bool := [decide (f.x = nullS), decide (f.keys.size = 0), nodesB f n].all id
def mapB (f : Fn) (n : Int) : Bool := [decide (f.x = nullS), if f.k = 2 then decide (f.keys.size = f.kids.size) else false, keysB f, nodesB f n].all id
/-- the worlds behind a box and a row of rules -/
theorem rows_world (w : World) (o : Obj) (vs : Array Value) (T : TypeId) : ∃ W, ((w.alloc o).alloc (.cells vs T)) = W ∧ W.heap[w.heap.size + 1]? = some (.cells vs T (0, 0)) ∧ W.heap.size = w.heap.size + 2 ∧ Below w.heap.size w W := by
  refine ⟨_, rfl, ?_, by simp, ((Below.refl _ w).alloc (Nat.le_refl _) _).alloc (by simp) _⟩
  have h := heap_alloc_new (w.alloc o) (.cells vs T)
  rwa [World.size_alloc] at h
set_option maxHeartbeats 1000000 in
theorem isOne_any (f : Fn) (n : Int) (w : World) (E : Env w) (h : Nl w f) :
    Calls Tryz.prog 59 #[vV f n] w fun e w' => e = .returned (.bool (oneB f)) ∧ Below w.heap.size w w' := by
  obtain ⟨W, hW, hr, hz, hb⟩ := rows_world w (.cells #[.int .i64 f.k, .int .i64 f.x.1, .int .i64 f.x.2.1, .string f.x.2.2, .slice f.pk f.keys.size f.ck, .slice f.pd f.kids.size f.cd, .int .i64 n] 58) #[.func (.func 75) #[] #[], .func (.func 76) #[] #[], .func (.func 77) #[] #[]] 102
  have hF := follows_any f.k f.x.1 f.x.2.1 f.x.2.2 f.pk f.keys.size f.ck f.pd f.kids.size f.cd n (w.heap.size + 1) 3 [rightS f.x, decide (f.keys.size = 0), decide (f.kids.size = 0)] (by simp) W (by omega) (fun j hj => by
    have hj3 : j < 3 := hj
    obtain rfl | rfl | rfl : j = 0 ∨ j = 1 ∨ j = 2 := by omega
    · exact ⟨_, cell_of_row _ _ 0 _ _ _ hr, rScalar (E.below hb) (h.below hb)⟩
    · exact ⟨_, cell_of_row _ _ 1 _ _ _ hr, rNoKeys⟩
    · exact ⟨_, cell_of_row _ _ 2 _ _ _ hr, rNoKids⟩)
  have HF := Lib.hid hF
  have HB := Lib.hid hb
  have HW := Lib.hid hW
  obtain ⟨R, hR⟩ : ∃ R, oneB f = R := ⟨_, rfl⟩
  have HR := Lib.hid hR
  rw [hR]
  clear hF hb hW hr hz E h hR
  go_enter Tryz.func59, Tryz.ntmps59
  go_wp2_with fail
  rw [HW.out]
  refine HF.out.mono ?_
  rintro e w5 ⟨he, hb5⟩
  have he2 : e = .returned (.bool R) := he.trans (by rw [← HR.out]; rfl)
  subst he2
  clear he
  have HB5 := Lib.hid (HB.out.trans (hb5.mono HB.out.size))
  clear hb5
  go_wp2_with fail
  go_ret
  exact ⟨rfl, HB5.out⟩
set_option maxHeartbeats 1000000 in
theorem isSeq_any (f : Fn) (n : Int) (w : World) (_E : Env w) (h : Nl w f) :
    Calls Tryz.prog 60 #[vV f n] w fun e w' => e = .returned (.bool (seqB f n)) ∧ Below w.heap.size w w' := by
  obtain ⟨W, hW, hr, hz, hb⟩ := rows_world w (.cells #[.int .i64 f.k, .int .i64 f.x.1, .int .i64 f.x.2.1, .string f.x.2.2, .slice f.pk f.keys.size f.ck, .slice f.pd f.kids.size f.cd, .int .i64 n] 58) #[.func (.func 78) #[] #[], .func (.func 76) #[] #[], .func (.func 79) #[] #[]] 102
  have hF := follows_any f.k f.x.1 f.x.2.1 f.x.2.2 f.pk f.keys.size f.ck f.pd f.kids.size f.cd n (w.heap.size + 1) 3 [decide (f.x = nullS), decide (f.keys.size = 0), nodesB f n] (by simp) W (by omega) (fun j hj => by
    have hj3 : j < 3 := hj
    obtain rfl | rfl | rfl : j = 0 ∨ j = 1 ∨ j = 2 := by omega
    · exact ⟨_, cell_of_row _ _ 0 _ _ _ hr, rNull⟩
    · exact ⟨_, cell_of_row _ _ 1 _ _ _ hr, rNoKeys⟩
    · exact ⟨_, cell_of_row _ _ 2 _ _ _ hr, rNodes (h.below hb)⟩)
  have HF := Lib.hid hF
  have HB := Lib.hid hb
  have HW := Lib.hid hW
  obtain ⟨R, hR⟩ : ∃ R, seqB f n = R := ⟨_, rfl⟩
  have HR := Lib.hid hR
  rw [hR]
  clear hF hb hW hr hz _E h hR
  go_enter Tryz.func60, Tryz.ntmps60
  go_wp2_with fail
  rw [HW.out]
  refine HF.out.mono ?_
  rintro e w5 ⟨he, hb5⟩
  have he2 : e = .returned (.bool R) := he.trans (by rw [← HR.out]; rfl)
  subst he2
  clear he
  have HB5 := Lib.hid (HB.out.trans (hb5.mono HB.out.size))
  clear hb5
  go_wp2_with fail
  go_ret
  exact ⟨rfl, HB5.out⟩
set_option maxHeartbeats 1000000 in
theorem isMap_any (f : Fn) (n : Int) (w : World) (E : Env w) (h : Nl w f) :
    Calls Tryz.prog 61 #[vV f n] w fun e w' => e = .returned (.bool (mapB f n)) ∧ Below w.heap.size w w' := by
  obtain ⟨W, hW, hr, hz, hb⟩ := rows_world w (.cells #[.int .i64 f.k, .int .i64 f.x.1, .int .i64 f.x.2.1, .string f.x.2.2, .slice f.pk f.keys.size f.ck, .slice f.pd f.kids.size f.cd, .int .i64 n] 58) #[.func (.func 78) #[] #[], .func (.func 33) #[] #[], .func (.func 80) #[] #[], .func (.func 79) #[] #[]] 102
  have hF := follows_any f.k f.x.1 f.x.2.1 f.x.2.2 f.pk f.keys.size f.ck f.pd f.kids.size f.cd n (w.heap.size + 1) 4 [decide (f.x = nullS), if f.k = 2 then decide (f.keys.size = f.kids.size) else false, keysB f, nodesB f n] (by simp) W (by omega) (fun j hj => by
    have hj3 : j < 4 := hj
    obtain rfl | rfl | rfl | rfl : j = 0 ∨ j = 1 ∨ j = 2 ∨ j = 3 := by omega
    · exact ⟨_, cell_of_row _ _ 0 _ _ _ hr, rNull⟩
    · exact ⟨_, cell_of_row _ _ 1 _ _ _ hr, rPaired⟩
    · exact ⟨_, cell_of_row _ _ 2 _ _ _ hr, rScalars (E.below hb) (h.below hb)⟩
    · exact ⟨_, cell_of_row _ _ 3 _ _ _ hr, rNodes (h.below hb)⟩)
  have HF := Lib.hid hF
  have HB := Lib.hid hb
  have HW := Lib.hid hW
  obtain ⟨R, hR⟩ : ∃ R, mapB f n = R := ⟨_, rfl⟩
  have HR := Lib.hid hR
  rw [hR]
  clear hF hb hW hr hz E h hR
  go_enter Tryz.func61, Tryz.ntmps61
  go_wp2_with fail
  rw [HW.out]
  refine HF.out.mono ?_
  rintro e w5 ⟨he, hb5⟩
  have he2 : e = .returned (.bool R) := he.trans (by rw [← HR.out]; rfl)
  subst he2
  clear he
  have HB5 := Lib.hid (HB.out.trans (hb5.mono HB.out.size))
  clear hb5
  go_wp2_with fail
  go_ret
  exact ⟨rfl, HB5.out⟩
def rightF (f : Fn) (n : Int) : Bool := if f.k = 0 then oneB f else if f.k = 1 then seqB f n else if f.k = 2 then mapB f n else false
theorem below_drewN {b : Nat} {w w' : World} (h : Below b w w') (q : Nat) : Below b w (w'.drewN q) := ⟨h.os, h.tape, h.output, h.size, h.block⟩
abbrev S10 (B : Nat) (k a b : Int) (s : ByteArray) (pk : Option Addr) (nk ck : Nat) (pd : Option Addr) (nd cd : Nat) (n : Int) (wo W : World) : Prop :=
  W.cell? ⟨B, 0, none⟩ = some (.int .i64 k) ∧ W.cell? ⟨B, 1, none⟩ = some (.int .i64 a) ∧ W.cell? ⟨B, 2, none⟩ = some (.int .i64 b) ∧ W.cell? ⟨B, 3, none⟩ = some (.string s) ∧
  W.cell? ⟨B, 4, none⟩ = some (.slice pk nk ck) ∧ W.cell? ⟨B, 5, none⟩ = some (.slice pd nd cd) ∧ W.cell? ⟨B, 6, none⟩ = some (.int .i64 n) ∧
  W.cell? ⟨B + 1, 0, none⟩ = some (.func (.func 59) #[] #[]) ∧ W.cell? ⟨B + 1, 1, none⟩ = some (.func (.func 60) #[] #[]) ∧ W.cell? ⟨B + 1, 2, none⟩ = some (.func (.func 61) #[] #[]) ∧ Below wo.heap.size wo W
theorem s10_step {B : Nat} {k a b : Int} {s : ByteArray} {pk : Option Addr} {nk ck : Nat} {pd : Option Addr} {nd cd : Nat} {n : Int} {wo W W' : World}
    (h : S10 B k a b s pk nk ck pd nd cd n wo W) (hb : Below W.heap.size W W') : S10 B k a b s pk nk ck pd nd cd n wo W' := by
  obtain ⟨h0, h1, h2, h3, h4, h5, h6, h7, h8, h9, hbb⟩ := h
  exact ⟨(hb.cell (block_lt_of_cell h0)).trans h0, (hb.cell (block_lt_of_cell h1)).trans h1, (hb.cell (block_lt_of_cell h2)).trans h2, (hb.cell (block_lt_of_cell h3)).trans h3, (hb.cell (block_lt_of_cell h4)).trans h4, (hb.cell (block_lt_of_cell h5)).trans h5, (hb.cell (block_lt_of_cell h6)).trans h6,
    (hb.cell (block_lt_of_cell h7)).trans h7, (hb.cell (block_lt_of_cell h8)).trans h8, (hb.cell (block_lt_of_cell h9)).trans h9, hbb.trans (hb.mono hbb.size)⟩
theorem s10_drew {B : Nat} {k a b : Int} {s : ByteArray} {pk : Option Addr} {nk ck : Nat} {pd : Option Addr} {nd cd : Nat} {n : Int} {wo W : World}
    (h : S10 B k a b s pk nk ck pd nd cd n wo W) : S10 B k a b s pk nk ck pd nd cd n wo W.drew := s10_step h (Below.refl _ W).drew
set_option maxHeartbeats 4000000 in
theorem isRight_any (f : Fn) (n : Int) (w : World) (E : Env w) (h : Nl w f) :
    Calls Tryz.prog 42 #[vV f n] w fun e w' => e = .returned (.bool (rightF f n)) ∧ Below w.heap.size w w' := by
  have h1 := fun w E h => isOne_any f n w E h
  have h2 := fun w E h => isSeq_any f n w E h
  have h3 := fun w E h => isMap_any f n w E h
  have HE := Lib.hid E
  have HN := Lib.hid h
  unfold vV
  obtain ⟨O, hO⟩ : ∃ O, oneB f = O := ⟨_, rfl⟩
  obtain ⟨S, hS⟩ : ∃ O, seqB f n = O := ⟨_, rfl⟩
  obtain ⟨M, hM⟩ : ∃ O, mapB f n = O := ⟨_, rfl⟩
  unfold rightF
  rw [hO] at h1 ⊢
  rw [hS] at h2 ⊢
  rw [hM] at h3 ⊢
  unfold vV at h1 h2 h3
  have HFK : Hid (∀ f' : Fn, Nl w f' → Nl w f') := Lib.hid fun _ h => h
  have HE' := fun W (hb : Below w.heap.size w W) => HE.out.below hb
  have HN' := fun W (hb : Below w.heap.size w W) => HN.out.below hb
  obtain ⟨k, hk⟩ : ∃ k, f.k = k := ⟨_, rfl⟩
  have hG1 := fun W (hb : Below w.heap.size w W) => h1 W (HE' W hb) (HN' W hb)
  have hG2 := fun W (hb : Below w.heap.size w W) => h2 W (HE' W hb) (HN' W hb)
  have hG3 := fun W (hb : Below w.heap.size w W) => h3 W (HE' W hb) (HN' W hb)
  rw [hk] at hG1 hG2 hG3 ⊢
  clear E h h1 h2 h3 hO hS hM hk HE' HN' HFK HE HN
  obtain ⟨⟨x0, x1, x2⟩, hx⟩ : ∃ x : Sc, f.x = x := ⟨_, rfl⟩
  rw [hx] at hG1 hG2 hG3 ⊢
  obtain ⟨pk, hpk⟩ : ∃ z, f.pk = z := ⟨_, rfl⟩
  obtain ⟨nk, hnk⟩ : ∃ z, f.keys.size = z := ⟨_, rfl⟩
  obtain ⟨ck, hck⟩ : ∃ z, f.ck = z := ⟨_, rfl⟩
  obtain ⟨pd, hpd⟩ : ∃ z, f.pd = z := ⟨_, rfl⟩
  obtain ⟨nd, hnd⟩ : ∃ z, f.kids.size = z := ⟨_, rfl⟩
  obtain ⟨cd, hcd⟩ : ∃ z, f.cd = z := ⟨_, rfl⟩
  rw [hpk, hnk, hck, hpd, hnd, hcd] at hG1 hG2 hG3 ⊢
  clear hx hpk hnk hck hpd hnd hcd
  obtain ⟨W, hW, hr, hz, hb⟩ := rows_world w (.cells #[.int .i64 k, .int .i64 x0, .int .i64 x1, .string x2, .slice pk nk ck, .slice pd nd cd, .int .i64 n] 58) #[.func (.func 59) #[] #[], .func (.func 60) #[] #[], .func (.func 61) #[] #[]] 103
  have hr0 : W.heap[w.heap.size]? = some (.cells #[.int .i64 k, .int .i64 x0, .int .i64 x1, .string x2, .slice pk nk ck, .slice pd nd cd, .int .i64 n] 58 (0, 0)) := by
    rw [← hW]
    exact (Below.heap_alloc _ _ _ (by simp)).trans (heap_alloc_new w _)
  have HS0 : Hid (S10 w.heap.size k x0 x1 x2 pk nk ck pd nd cd n w W) := Lib.hid ⟨cell_of_row _ _ 0 _ _ _ hr0, cell_of_row _ _ 1 _ _ _ hr0, cell_of_row _ _ 2 _ _ _ hr0, cell_of_row _ _ 3 _ _ _ hr0, cell_of_row _ _ 4 _ _ _ hr0, cell_of_row _ _ 5 _ _ _ hr0, cell_of_row _ _ 6 _ _ _ hr0,
    cell_of_row _ _ 0 _ _ _ hr, cell_of_row _ _ 1 _ _ _ hr, cell_of_row _ _ 2 _ _ _ hr, hb⟩
  have HC1 : Hid (∀ W, Hid (S10 w.heap.size k x0 x1 x2 pk nk ck pd nd cd n w W) → Calls Tryz.prog 59 #[.agg #[.int .i64 k, .int .i64 x0, .int .i64 x1, .string x2, .slice pk nk ck, .slice pd nd cd, .int .i64 n]] W fun e W' => e = .returned (.bool O) ∧ Hid (S10 w.heap.size k x0 x1 x2 pk nk ck pd nd cd n w W')) :=
    Lib.hid fun W h => (hG1 W h.out.2.2.2.2.2.2.2.2.2.2).mono fun e W' hh => ⟨hh.1, Lib.hid (s10_step h.out hh.2)⟩
  have HC2 : Hid (∀ W, Hid (S10 w.heap.size k x0 x1 x2 pk nk ck pd nd cd n w W) → Calls Tryz.prog 60 #[.agg #[.int .i64 k, .int .i64 x0, .int .i64 x1, .string x2, .slice pk nk ck, .slice pd nd cd, .int .i64 n]] W fun e W' => e = .returned (.bool S) ∧ Hid (S10 w.heap.size k x0 x1 x2 pk nk ck pd nd cd n w W')) :=
    Lib.hid fun W h => (hG2 W h.out.2.2.2.2.2.2.2.2.2.2).mono fun e W' hh => ⟨hh.1, Lib.hid (s10_step h.out hh.2)⟩
  have HC3 : Hid (∀ W, Hid (S10 w.heap.size k x0 x1 x2 pk nk ck pd nd cd n w W) → Calls Tryz.prog 61 #[.agg #[.int .i64 k, .int .i64 x0, .int .i64 x1, .string x2, .slice pk nk ck, .slice pd nd cd, .int .i64 n]] W fun e W' => e = .returned (.bool M) ∧ Hid (S10 w.heap.size k x0 x1 x2 pk nk ck pd nd cd n w W')) :=
    Lib.hid fun W h => (hG3 W h.out.2.2.2.2.2.2.2.2.2.2).mono fun e W' hh => ⟨hh.1, Lib.hid (s10_step h.out hh.2)⟩
  have HP : Hid (∀ W, Calls Tryz.prog 40 #[.int .i64 k, .int .i64 3] W fun e W' => e = .returned (.bool (plB k 3)) ∧ W' = W) := Lib.hid fun W => isPlace_any k 3 W
  have HW := Lib.hid hW
  clear hG1 hG2 hG3 hr hz hb hr0 hW
  by_cases c0 : k = 0
  · subst c0
    rw [if_pos rfl]
    have hpl : plB 0 3 = true := by decide
    rw [hpl] at HP
    clear hpl
    go_enter Tryz.func42, Tryz.ntmps42
    go_wp2_with fail
    rw [HW.out]
    go_region_held3 (S10 w.heap.size 0 x0 x1 x2 pk nk ck pd nd cd n w) (first | exact Hid.out (by assumption) | exact s10_drew (Hid.out (by assumption))) (first
      | ((with_reducible refine (HP.out _).mono ?_); rintro e wq ⟨rfl, rfl⟩)
      | ((with_reducible refine (HC1.out _ (by first | assumption | exact Lib.hid (s10_drew (Hid.out (by assumption))))).mono ?_); rintro e wq ⟨rfl, hbq⟩))
    have HQ := hbq.out.2.2.2.2.2.2.2.2.2.2
    go_wp2_with fail
    go_ret
    exact ⟨rfl, HQ⟩
  by_cases c1 : k = 1
  · subst c1
    rw [if_neg (by decide), if_pos rfl]
    have hpl : plB 1 3 = true := by decide
    rw [hpl] at HP
    clear hpl
    go_enter Tryz.func42, Tryz.ntmps42
    go_wp2_with fail
    rw [HW.out]
    go_region_held3 (S10 w.heap.size 1 x0 x1 x2 pk nk ck pd nd cd n w) (first | exact Hid.out (by assumption) | exact s10_drew (Hid.out (by assumption))) (first
      | ((with_reducible refine (HP.out _).mono ?_); rintro e wq ⟨rfl, rfl⟩)
      | ((with_reducible refine (HC2.out _ (by first | assumption | exact Lib.hid (s10_drew (Hid.out (by assumption))))).mono ?_); rintro e wq ⟨rfl, hbq⟩))
    have HQ := hbq.out.2.2.2.2.2.2.2.2.2.2
    go_wp2_with fail
    go_ret
    exact ⟨rfl, HQ⟩
  by_cases c2 : k = 2
  · subst c2
    rw [if_neg (by decide), if_neg (by decide), if_pos rfl]
    have hpl : plB 2 3 = true := by decide
    rw [hpl] at HP
    clear hpl
    go_enter Tryz.func42, Tryz.ntmps42
    go_wp2_with fail
    rw [HW.out]
    go_region_held3 (S10 w.heap.size 2 x0 x1 x2 pk nk ck pd nd cd n w) (first | exact Hid.out (by assumption) | exact s10_drew (Hid.out (by assumption))) (first
      | ((with_reducible refine (HP.out _).mono ?_); rintro e wq ⟨rfl, rfl⟩)
      | ((with_reducible refine (HC3.out _ (by first | assumption | exact Lib.hid (s10_drew (Hid.out (by assumption))))).mono ?_); rintro e wq ⟨rfl, hbq⟩))
    have HQ := hbq.out.2.2.2.2.2.2.2.2.2.2
    go_wp2_with fail
    go_ret
    exact ⟨rfl, HQ⟩
  have hpl : plB k 3 = false := by
    cases hq : plB k 3
    · rfl
    · have := plB_iff.1 hq
      omega
  rw [hpl] at HP
  rw [if_neg c0, if_neg c1, if_neg c2]
  go_enter Tryz.func42, Tryz.ntmps42
  go_wp2_with fail
  rw [HW.out]
  obtain ⟨q0, q1, q2, q3, q4, q5, q6, _, _, _, HQ⟩ := HS0.out
  go_quiet ((go_at_call 40; exact Calls.quiet_of_same (HP.out _)))
  go_wp2_with fail
  go_ret
  exact ⟨rfl, below_drewN HQ _⟩
end Go.Proofs.YtfpcjdopfodfnaaGreatDoor
