/- Which nodes are right is told as the document tells it. Conditions: the surroundings; the node's keys and kids lie. Which nodes are right, of each kind, is told as the document tells it. Conditions: the surroundings; the node's keys and kids lie. -/
import Derived.Test.YtepelpmkmhhokaaGreatDoorRgx
import Derived.Test.YtepelpmkmhhokaaGreatDoorArx
import Derived.Laws.EntriesVeiled
import Derived.Deep.RegionHeld
import Derived.Deep.RegionHeld3
import Derived.BigQuiet
import Derived.Deep.QuietTactic
set_option maxRecDepth 100000
namespace Go.Proofs.YtepelpmkmhhokaaGreatDoor
open Go.RowKit Go.Shelf
open Scs
/-- a node within its graph, as the functions take it -/
abbrev vV (f : Fn) (n : Int) : Value := .agg #[.int .i64 f.k, .int .i64 f.x.1, .int .i64 f.x.2.1, .string f.x.2.2, .slice f.pk f.keys.size f.ck, .slice f.pd f.kids.size f.cd, .int .i64 n]
theorem saysScalar_any (f : Fn) (n : Int) (w : World) (E : Env w) (h : Nl w f) :
    Calls Tryz.prog 111 #[vV f n] w fun e w' => e = .returned (.bool (rightS f.x)) ∧ Below w.heap.size w w' := by
  have hxs := h.xs
  have hR := fun w E => Right_any f.x.1 f.x.2.1 f.x.2.2 (by omega) w E
  have HR := Lib.hid hR
  have HE := Lib.hid E
  unfold rightS
  clear E h hR hxs
  go_enter Tryz.func111, Tryz.ntmps111
  go_wp2_with fail
  refine (HR.out _ (HE.out.below ((Below.refl _ _).alloc (Nat.le_refl _) _))).mono ?_
  rintro e w5 ⟨rfl, hb5⟩
  have HB5 := Lib.hid (((Below.refl _ w).alloc (Nat.le_refl _) _).trans (hb5.mono (by simp)))
  clear hb5
  go_wp2_with fail
  go_ret
  exact ⟨rfl, HB5.out⟩
theorem isNone_any (x : Sc) (hx : x.2.2.size ≤ 1000000) (w : World) (E : Env w) :
    Calls Tryz.prog 136 #[aggS x] w fun e w' => e = .returned (.bool (!rightS x)) ∧ Below w.heap.size w w' := by
  have hR := fun w E => Right_any x.1 x.2.1 x.2.2 (by omega) w E
  have HR := Lib.hid hR
  have HE := Lib.hid E
  unfold rightS aggS
  clear E hR hx
  go_enter Tryz.func136, Tryz.ntmps136
  go_wp2_with fail
  refine (HR.out _ (HE.out.below ((Below.refl _ _).alloc (Nat.le_refl _) _))).mono ?_
  rintro e w5 ⟨rfl, hb5⟩
  have HB5 := Lib.hid (((Below.refl _ w).alloc (Nat.le_refl _) _).trans (hb5.mono (by simp)))
  clear hb5
  go_wp2_with fail
  go_ret
  exact ⟨rfl, HB5.out⟩
theorem nowhere_any (z n : Int) (B : Nat) (w : World) (hc : w.cell? ⟨B, 6, none⟩ = some (.int .i64 n)) :
    Calls Tryz.prog 133 #[.int .i64 z, .pointer (some ⟨B, 0, none⟩)] w fun e w' => e = .returned (.bool (!plB z n)) ∧ Below w.heap.size w w' := by
  go_enter Tryz.func133, Tryz.ntmps133
  go_wp2_with fail
  refine (isPlace_any _ _ _).mono ?_
  rintro e w5 ⟨rfl, rfl⟩
  go_wp2_with fail
  go_ret
  exact ⟨rfl, Below.refl _ _⟩
set_option maxHeartbeats 1000000 in
theorem hasNodes_any (f : Fn) (n : Int) (w : World) (h : Nl w f) :
    Calls Tryz.prog 115 #[vV f n] w fun e w' => e = .returned (.bool (!(f.kids.toList.any fun z => !plB z n))) ∧ Below w.heap.size w w' := by
  have hds := h.ds
  have HD := Lib.hid hds
  obtain ⟨R, hR⟩ : ∃ R, (f.kids.toList.any fun z => !plB z n) = R := ⟨_, rfl⟩
  have HRR := Lib.hid hR
  rw [hR]
  clear h hds hR
  have hal := (Below.refl w.heap.size w).alloc (Nat.le_refl _) (.cells #[.int .i64 f.k, .int .i64 f.x.1, .int .i64 f.x.2.1, .string f.x.2.2, .slice f.pk f.keys.size f.ck, .slice f.pd f.kids.size f.cd, .int .i64 n] 151)
  have hrow := heap_alloc_new w (.cells #[.int .i64 f.k, .int .i64 f.x.1, .int .i64 f.x.2.1, .string f.x.2.2, .slice f.pk f.keys.size f.ck, .slice f.pd f.kids.size f.cd, .int .i64 n] 151)
  have hcont : Calls Tryz.prog 134 #[.slice f.pd f.kids.size f.cd, .func (.func 133) #[] #[.pointer (some ⟨w.heap.size, 0, none⟩)]] (w.alloc (.cells #[.int .i64 f.k, .int .i64 f.x.1, .int .i64 f.x.2.1, .string f.x.2.2, .slice f.pk f.keys.size f.ck, .slice f.pd f.kids.size f.cd, .int .i64 n] 151)) fun e w' => e = .returned (.bool R) ∧ Below w.heap.size w w' := by
    have h1 := containsI_any 133 #[.pointer (some ⟨w.heap.size, 0, none⟩)] (fun z => !plB z n) f.kids f.pd f.cd _ (HD.out.below hal) (enters_of Tryz.func133 (by kernel_rfl) rfl) (fun W hW z => nowhere_any z n w.heap.size W ((hW.cell (p := ⟨w.heap.size, 6, none⟩) (by simp)).trans (cell_of_row _ _ 6 _ _ _ hrow)))
    refine h1.mono ?_
    rintro e w5 ⟨rfl, hb5⟩
    rw [HRR.out]
    exact ⟨rfl, hal.trans (hb5.mono (by simp))⟩
  have HC := Lib.hid hcont
  clear hcont hal hrow
  go_enter Tryz.func115, Tryz.ntmps115
  go_wp2_with fail
  refine HC.out.mono ?_
  rintro e w5 ⟨rfl, hb5⟩
  have HB5 := Lib.hid hb5
  clear hb5
  go_wp2_with fail
  go_ret
  exact ⟨rfl, HB5.out⟩
set_option maxHeartbeats 2000000 in
theorem hasScalars_any (f : Fn) (n : Int) (w : World) (E : Env w) (h : Nl w f) :
    Calls Tryz.prog 116 #[vV f n] w fun e w' => e = .returned (.bool (if (f.keys.toList.any fun x => !rightS x) = true then false else !twiceB f.keys.toList)) ∧ Below w.heap.size w w' := by
  have HK := Lib.hid h.ks
  have HE := Lib.hid E
  obtain ⟨R, hR⟩ : ∃ R, (f.keys.toList.any fun x => !rightS x) = R := ⟨_, rfl⟩
  obtain ⟨T, hT⟩ : ∃ T, twiceB f.keys.toList = T := ⟨_, rfl⟩
  have HRR := Lib.hid hR
  have HT := Lib.hid hT
  rw [hR, hT]
  have hal := (Below.refl w.heap.size w).alloc (Nat.le_refl _) (.cells #[.int .i64 f.k, .int .i64 f.x.1, .int .i64 f.x.2.1, .string f.x.2.2, .slice f.pk f.keys.size f.ck, .slice f.pd f.kids.size f.cd, .int .i64 n] 151)
  have hrow := heap_alloc_new w (.cells #[.int .i64 f.k, .int .i64 f.x.1, .int .i64 f.x.2.1, .string f.x.2.2, .slice f.pk f.keys.size f.ck, .slice f.pd f.kids.size f.cd, .int .i64 n] 151)
  have HAL := Lib.hid hal
  have HROW := Lib.hid hrow
  clear h hR hT E hal hrow
  have hcont : Calls Tryz.prog 135 #[.slice f.pk f.keys.size f.ck, .func (.func 136) #[] #[]] (w.alloc (.cells #[.int .i64 f.k, .int .i64 f.x.1, .int .i64 f.x.2.1, .string f.x.2.2, .slice f.pk f.keys.size f.ck, .slice f.pd f.kids.size f.cd, .int .i64 n] 151)) fun e w' => e = .returned (.bool R) ∧ Below w.heap.size w w' ∧ w'.heap[w.heap.size]? = some (.cells #[.int .i64 f.k, .int .i64 f.x.1, .int .i64 f.x.2.1, .string f.x.2.2, .slice f.pk f.keys.size f.ck, .slice f.pd f.kids.size f.cd, .int .i64 n] 151 (0, 0)) := by
    have h1 := containsS_any 136 #[] (fun x => !rightS x) f.keys f.pk f.ck _ (HK.out.below HAL.out) (enters_of Tryz.func136 (by kernel_rfl) rfl) (fun W hW j hj => by rw [Array.append_empty]; exact isNone_any _ (HK.out.short j hj) W ((HE.out.below HAL.out).below hW))
    refine h1.mono ?_
    rintro e w5 ⟨rfl, hb5⟩
    rw [HRR.out]
    exact ⟨rfl, HAL.out.trans (hb5.mono (by simp)), (hb5.block _ (by simp)).trans HROW.out⟩
  have HC := Lib.hid hcont
  clear hcont
  cases R
  · rw [if_neg (by decide)]
    go_enter Tryz.func116, Tryz.ntmps116
    go_wp2_with (first
      | (go_at_call 135
         refine HC.out.mono ?_
         rintro e w5 ⟨rfl, hb5, hx5⟩
         have HB5 := Lib.hid hb5
         have c4 : w5.cell? ⟨w.heap.size, 4, none⟩ = some (.slice f.pk f.keys.size f.ck) := cell_of_row _ _ 4 _ _ _ hx5
         clear hb5 hx5)
      | (go_at_call 137
         refine (Twice_any f.keys f.pk f.ck _ (HK.out.below HB5.out)).mono ?_
         rintro e w6 ⟨rfl, hb6⟩
         rw [HT.out]
         have HB6 := Lib.hid (HB5.out.trans (hb6.mono HB5.out.size))
         clear hb6))
    go_ret
    exact ⟨rfl, HB6.out⟩
  · rw [if_pos rfl]
    go_enter Tryz.func116, Tryz.ntmps116
    go_wp2_with (first
      | (go_at_call 135
         refine HC.out.mono ?_
         rintro e w5 ⟨rfl, hb5, hx5⟩
         have HB5 := Lib.hid hb5
         clear hb5 hx5))
    go_ret
    exact ⟨rfl, HB5.out⟩
end Go.Proofs.YtepelpmkmhhokaaGreatDoor

set_option maxRecDepth 100000
namespace Go.Proofs.YtepelpmkmhhokaaGreatDoor
open Go.RowKit Go.Shelf
open Scs
def nullS : Sc := (0, 0, ⟨#[]⟩)
theorem rule_one {w : World} {V : Value} {g : Nat} {b : Bool} (eg : ∀ args w, (callFunc g args).run Tryz.prog w = .ok (.enter g args) w) (h : ∀ W, Below w.heap.size w W → Calls Tryz.prog g #[V] W fun e W' => e = .returned (.bool b) ∧ Below W.heap.size W W') :
    RuleV w V (.func (.func g) #[] #[]) b := ⟨g, #[], rfl, eg, fun W hW => by rw [Array.append_empty]; exact h W hW⟩
theorem rScalar {f : Fn} {n : Int} {w : World} (E : Env w) (h : Nl w f) : RuleV w (vV f n) (.func (.func 111) #[] #[]) (rightS f.x) :=
  rule_one (enters_of Tryz.func111 (by kernel_rfl) rfl) fun W hW => saysScalar_any f n W (E.below hW) (h.below hW)
theorem rNoKeys {f : Fn} {n : Int} {w : World} : RuleV w (vV f n) (.func (.func 112) #[] #[]) (decide (f.keys.size = 0)) :=
  rule_one (enters_of Tryz.func112 (by kernel_rfl) rfl) fun W _ => hasNoKeys_any _ _ _ _ _ _ _ _ _ _ _ W
theorem rNoKids {f : Fn} {n : Int} {w : World} : RuleV w (vV f n) (.func (.func 113) #[] #[]) (decide (f.kids.size = 0)) :=
  rule_one (enters_of Tryz.func113 (by kernel_rfl) rfl) fun W _ => hasNoKids_any _ _ _ _ _ _ _ _ _ _ _ W
theorem rNull {f : Fn} {n : Int} {w : World} : RuleV w (vV f n) (.func (.func 114) #[] #[]) (decide (f.x = nullS)) :=
  rule_one (enters_of Tryz.func114 (by kernel_rfl) rfl) fun W _ => saysNull_any _ _ _ _ _ _ _ _ _ _ _ W
theorem rPaired {f : Fn} {n : Int} {w : World} : RuleV w (vV f n) (.func (.func 76) #[] #[]) (if f.k = 2 then decide (f.keys.size = f.kids.size) else false) :=
  rule_one (enters_of Tryz.func76 (by kernel_rfl) rfl) fun W _ => isPaired_any _ _ _ _ _ _ _ _ _ _ _ W
def nodesB (f : Fn) (n : Int) : Bool := !(f.kids.toList.any fun z => !plB z n)
def keysB (f : Fn) : Bool := if (f.keys.toList.any fun x => !rightS x) = true then false else !twiceB f.keys.toList
theorem rNodes {f : Fn} {n : Int} {w : World} (h : Nl w f) : RuleV w (vV f n) (.func (.func 115) #[] #[]) (nodesB f n) :=
  rule_one (enters_of Tryz.func115 (by kernel_rfl) rfl) fun W hW => hasNodes_any f n W (h.below hW)
theorem rScalars {f : Fn} {n : Int} {w : World} (E : Env w) (h : Nl w f) : RuleV w (vV f n) (.func (.func 116) #[] #[]) (keysB f) :=
  rule_one (enters_of Tryz.func116 (by kernel_rfl) rfl) fun W hW => hasScalars_any f n W (E.below hW) (h.below hW)
def oneB (f : Fn) : Bool := [rightS f.x, decide (f.keys.size = 0), decide (f.kids.size = 0)].all id
def seqB (f : Fn) (n : Int) : Bool := [decide (f.x = nullS), decide (f.keys.size = 0), nodesB f n].all id
def mapB (f : Fn) (n : Int) : Bool := [decide (f.x = nullS), if f.k = 2 then decide (f.keys.size = f.kids.size) else false, keysB f, nodesB f n].all id
/-- the worlds behind a box and a row of rules -/
theorem rows_world (w : World) (o : Obj) (vs : Array Value) (T : TypeId) : ∃ W, ((w.alloc o).alloc (.cells vs T)) = W ∧ W.heap[w.heap.size + 1]? = some (.cells vs T (0, 0)) ∧ W.heap.size = w.heap.size + 2 ∧ Below w.heap.size w W := by
  refine ⟨_, rfl, ?_, by simp, ((Below.refl _ w).alloc (Nat.le_refl _) _).alloc (by simp) _⟩
  have h := heap_alloc_new (w.alloc o) (.cells vs T)
  rwa [World.size_alloc] at h
set_option maxHeartbeats 1000000 in
theorem isOne_any (f : Fn) (n : Int) (w : World) (E : Env w) (h : Nl w f) :
    Calls Tryz.prog 96 #[vV f n] w fun e w' => e = .returned (.bool (oneB f)) ∧ Below w.heap.size w w' := by
  obtain ⟨W, hW, hr, hz, hb⟩ := rows_world w (.cells #[.int .i64 f.k, .int .i64 f.x.1, .int .i64 f.x.2.1, .string f.x.2.2, .slice f.pk f.keys.size f.ck, .slice f.pd f.kids.size f.cd, .int .i64 n] 151) #[.func (.func 111) #[] #[], .func (.func 112) #[] #[], .func (.func 113) #[] #[]] 181
  have hF := follows_any f.k f.x.1 f.x.2.1 f.x.2.2 f.pk f.keys.size f.ck f.pd f.kids.size f.cd n (w.heap.size + 1) 3 [rightS f.x, decide (f.keys.size = 0), decide (f.kids.size = 0)] (by simp) W (by omega) (fun j hj => by
    have hj3 : j < 3 := hj
    obtain rfl | rfl | rfl : j = 0 ∨ j = 1 ∨ j = 2 := by omega
    · exact ⟨_, cell_of_row _ _ 0 _ _ _ hr, rScalar (E.below hb) (h.below hb)⟩
    · exact ⟨_, cell_of_row _ _ 1 _ _ _ hr, rNoKeys⟩
    · exact ⟨_, cell_of_row _ _ 2 _ _ _ hr, rNoKids⟩)
  have HF := Lib.hid hF
  have HB := Lib.hid hb
  have HW := Lib.hid hW
  obtain ⟨R, hR⟩ : ∃ R, oneB f = R := ⟨_, rfl⟩
  have HR := Lib.hid hR
  rw [hR]
  clear hF hb hW hr hz E h hR
  go_enter Tryz.func96, Tryz.ntmps96
  go_wp2_with fail
  rw [HW.out]
  refine HF.out.mono ?_
  rintro e w5 ⟨he, hb5⟩
  have he2 : e = .returned (.bool R) := he.trans (by rw [← HR.out]; rfl)
  subst he2
  clear he
  have HB5 := Lib.hid (HB.out.trans (hb5.mono HB.out.size))
  clear hb5
  go_wp2_with fail
  go_ret
  exact ⟨rfl, HB5.out⟩
set_option maxHeartbeats 1000000 in
theorem isSeq_any (f : Fn) (n : Int) (w : World) (_E : Env w) (h : Nl w f) :
    Calls Tryz.prog 97 #[vV f n] w fun e w' => e = .returned (.bool (seqB f n)) ∧ Below w.heap.size w w' := by
  obtain ⟨W, hW, hr, hz, hb⟩ := rows_world w (.cells #[.int .i64 f.k, .int .i64 f.x.1, .int .i64 f.x.2.1, .string f.x.2.2, .slice f.pk f.keys.size f.ck, .slice f.pd f.kids.size f.cd, .int .i64 n] 151) #[.func (.func 114) #[] #[], .func (.func 112) #[] #[], .func (.func 115) #[] #[]] 181
  have hF := follows_any f.k f.x.1 f.x.2.1 f.x.2.2 f.pk f.keys.size f.ck f.pd f.kids.size f.cd n (w.heap.size + 1) 3 [decide (f.x = nullS), decide (f.keys.size = 0), nodesB f n] (by simp) W (by omega) (fun j hj => by
    have hj3 : j < 3 := hj
    obtain rfl | rfl | rfl : j = 0 ∨ j = 1 ∨ j = 2 := by omega
    · exact ⟨_, cell_of_row _ _ 0 _ _ _ hr, rNull⟩
    · exact ⟨_, cell_of_row _ _ 1 _ _ _ hr, rNoKeys⟩
    · exact ⟨_, cell_of_row _ _ 2 _ _ _ hr, rNodes (h.below hb)⟩)
  have HF := Lib.hid hF
  have HB := Lib.hid hb
  have HW := Lib.hid hW
  obtain ⟨R, hR⟩ : ∃ R, seqB f n = R := ⟨_, rfl⟩
  have HR := Lib.hid hR
  rw [hR]
  clear hF hb hW hr hz _E h hR
  go_enter Tryz.func97, Tryz.ntmps97
  go_wp2_with fail
  rw [HW.out]
  refine HF.out.mono ?_
  rintro e w5 ⟨he, hb5⟩
  have he2 : e = .returned (.bool R) := he.trans (by rw [← HR.out]; rfl)
  subst he2
  clear he
  have HB5 := Lib.hid (HB.out.trans (hb5.mono HB.out.size))
  clear hb5
  go_wp2_with fail
  go_ret
  exact ⟨rfl, HB5.out⟩
set_option maxHeartbeats 1000000 in
theorem isMap_any (f : Fn) (n : Int) (w : World) (E : Env w) (h : Nl w f) :
    Calls Tryz.prog 98 #[vV f n] w fun e w' => e = .returned (.bool (mapB f n)) ∧ Below w.heap.size w w' := by
  obtain ⟨W, hW, hr, hz, hb⟩ := rows_world w (.cells #[.int .i64 f.k, .int .i64 f.x.1, .int .i64 f.x.2.1, .string f.x.2.2, .slice f.pk f.keys.size f.ck, .slice f.pd f.kids.size f.cd, .int .i64 n] 151) #[.func (.func 114) #[] #[], .func (.func 76) #[] #[], .func (.func 116) #[] #[], .func (.func 115) #[] #[]] 181
  have hF := follows_any f.k f.x.1 f.x.2.1 f.x.2.2 f.pk f.keys.size f.ck f.pd f.kids.size f.cd n (w.heap.size + 1) 4 [decide (f.x = nullS), if f.k = 2 then decide (f.keys.size = f.kids.size) else false, keysB f, nodesB f n] (by simp) W (by omega) (fun j hj => by
    have hj3 : j < 4 := hj
    obtain rfl | rfl | rfl | rfl : j = 0 ∨ j = 1 ∨ j = 2 ∨ j = 3 := by omega
    · exact ⟨_, cell_of_row _ _ 0 _ _ _ hr, rNull⟩
    · exact ⟨_, cell_of_row _ _ 1 _ _ _ hr, rPaired⟩
    · exact ⟨_, cell_of_row _ _ 2 _ _ _ hr, rScalars (E.below hb) (h.below hb)⟩
    · exact ⟨_, cell_of_row _ _ 3 _ _ _ hr, rNodes (h.below hb)⟩)
  have HF := Lib.hid hF
  have HB := Lib.hid hb
  have HW := Lib.hid hW
  obtain ⟨R, hR⟩ : ∃ R, mapB f n = R := ⟨_, rfl⟩
  have HR := Lib.hid hR
  rw [hR]
  clear hF hb hW hr hz E h hR
  go_enter Tryz.func98, Tryz.ntmps98
  go_wp2_with fail
  rw [HW.out]
  refine HF.out.mono ?_
  rintro e w5 ⟨he, hb5⟩
  have he2 : e = .returned (.bool R) := he.trans (by rw [← HR.out]; rfl)
  subst he2
  clear he
  have HB5 := Lib.hid (HB.out.trans (hb5.mono HB.out.size))
  clear hb5
  go_wp2_with fail
  go_ret
  exact ⟨rfl, HB5.out⟩
def rightF (f : Fn) (n : Int) : Bool := if f.k = 0 then oneB f else if f.k = 1 then seqB f n else if f.k = 2 then mapB f n else false
theorem below_drewN {b : Nat} {w w' : World} (h : Below b w w') (q : Nat) : Below b w (w'.drewN q) := ⟨h.os, h.tape, h.output, h.size, h.block⟩
abbrev S10 (B : Nat) (k a b : Int) (s : ByteArray) (pk : Option Addr) (nk ck : Nat) (pd : Option Addr) (nd cd : Nat) (n : Int) (wo W : World) : Prop :=
  W.cell? ⟨B, 0, none⟩ = some (.int .i64 k) ∧ W.cell? ⟨B, 1, none⟩ = some (.int .i64 a) ∧ W.cell? ⟨B, 2, none⟩ = some (.int .i64 b) ∧ W.cell? ⟨B, 3, none⟩ = some (.string s) ∧
  W.cell? ⟨B, 4, none⟩ = some (.slice pk nk ck) ∧ W.cell? ⟨B, 5, none⟩ = some (.slice pd nd cd) ∧ W.cell? ⟨B, 6, none⟩ = some (.int .i64 n) ∧
  W.cell? ⟨B + 1, 0, none⟩ = some (.func (.func 96) #[] #[]) ∧ W.cell? ⟨B + 1, 1, none⟩ = some (.func (.func 97) #[] #[]) ∧ W.cell? ⟨B + 1, 2, none⟩ = some (.func (.func 98) #[] #[]) ∧ Below wo.heap.size wo W
theorem s10_step {B : Nat} {k a b : Int} {s : ByteArray} {pk : Option Addr} {nk ck : Nat} {pd : Option Addr} {nd cd : Nat} {n : Int} {wo W W' : World}
    (h : S10 B k a b s pk nk ck pd nd cd n wo W) (hb : Below W.heap.size W W') : S10 B k a b s pk nk ck pd nd cd n wo W' := by
  obtain ⟨h0, h1, h2, h3, h4, h5, h6, h7, h8, h9, hbb⟩ := h
  exact ⟨(hb.cell (block_lt_of_cell h0)).trans h0, (hb.cell (block_lt_of_cell h1)).trans h1, (hb.cell (block_lt_of_cell h2)).trans h2, (hb.cell (block_lt_of_cell h3)).trans h3, (hb.cell (block_lt_of_cell h4)).trans h4, (hb.cell (block_lt_of_cell h5)).trans h5, (hb.cell (block_lt_of_cell h6)).trans h6,
    (hb.cell (block_lt_of_cell h7)).trans h7, (hb.cell (block_lt_of_cell h8)).trans h8, (hb.cell (block_lt_of_cell h9)).trans h9, hbb.trans (hb.mono hbb.size)⟩
theorem s10_drew {B : Nat} {k a b : Int} {s : ByteArray} {pk : Option Addr} {nk ck : Nat} {pd : Option Addr} {nd cd : Nat} {n : Int} {wo W : World}
    (h : S10 B k a b s pk nk ck pd nd cd n wo W) : S10 B k a b s pk nk ck pd nd cd n wo W.drew := s10_step h (Below.refl _ W).drew
set_option maxHeartbeats 4000000 in
theorem isRight_any (f : Fn) (n : Int) (w : World) (E : Env w) (h : Nl w f) :
    Calls Tryz.prog 83 #[vV f n] w fun e w' => e = .returned (.bool (rightF f n)) ∧ Below w.heap.size w w' := by
  have h1 := fun w E h => isOne_any f n w E h
  have h2 := fun w E h => isSeq_any f n w E h
  have h3 := fun w E h => isMap_any f n w E h
  have HE := Lib.hid E
  have HN := Lib.hid h
  unfold vV
  obtain ⟨O, hO⟩ : ∃ O, oneB f = O := ⟨_, rfl⟩
  obtain ⟨S, hS⟩ : ∃ O, seqB f n = O := ⟨_, rfl⟩
  obtain ⟨M, hM⟩ : ∃ O, mapB f n = O := ⟨_, rfl⟩
  unfold rightF
  rw [hO] at h1 ⊢
  rw [hS] at h2 ⊢
  rw [hM] at h3 ⊢
  unfold vV at h1 h2 h3
  have HFK : Hid (∀ f' : Fn, Nl w f' → Nl w f') := Lib.hid fun _ h => h
  have HE' := fun W (hb : Below w.heap.size w W) => HE.out.below hb
  have HN' := fun W (hb : Below w.heap.size w W) => HN.out.below hb
  obtain ⟨k, hk⟩ : ∃ k, f.k = k := ⟨_, rfl⟩
  have hG1 := fun W (hb : Below w.heap.size w W) => h1 W (HE' W hb) (HN' W hb)
  have hG2 := fun W (hb : Below w.heap.size w W) => h2 W (HE' W hb) (HN' W hb)
  have hG3 := fun W (hb : Below w.heap.size w W) => h3 W (HE' W hb) (HN' W hb)
  rw [hk] at hG1 hG2 hG3 ⊢
  clear E h h1 h2 h3 hO hS hM hk HE' HN' HFK HE HN
  obtain ⟨⟨x0, x1, x2⟩, hx⟩ : ∃ x : Sc, f.x = x := ⟨_, rfl⟩
  rw [hx] at hG1 hG2 hG3 ⊢
  obtain ⟨pk, hpk⟩ : ∃ z, f.pk = z := ⟨_, rfl⟩
  obtain ⟨nk, hnk⟩ : ∃ z, f.keys.size = z := ⟨_, rfl⟩
  obtain ⟨ck, hck⟩ : ∃ z, f.ck = z := ⟨_, rfl⟩
  obtain ⟨pd, hpd⟩ : ∃ z, f.pd = z := ⟨_, rfl⟩
  obtain ⟨nd, hnd⟩ : ∃ z, f.kids.size = z := ⟨_, rfl⟩
  obtain ⟨cd, hcd⟩ : ∃ z, f.cd = z := ⟨_, rfl⟩
  rw [hpk, hnk, hck, hpd, hnd, hcd] at hG1 hG2 hG3 ⊢
  clear hx hpk hnk hck hpd hnd hcd
  obtain ⟨W, hW, hr, hz, hb⟩ := rows_world w (.cells #[.int .i64 k, .int .i64 x0, .int .i64 x1, .string x2, .slice pk nk ck, .slice pd nd cd, .int .i64 n] 151) #[.func (.func 96) #[] #[], .func (.func 97) #[] #[], .func (.func 98) #[] #[]] 182
  have hr0 : W.heap[w.heap.size]? = some (.cells #[.int .i64 k, .int .i64 x0, .int .i64 x1, .string x2, .slice pk nk ck, .slice pd nd cd, .int .i64 n] 151 (0, 0)) := by
    rw [← hW]
    exact (Below.heap_alloc _ _ _ (by simp)).trans (heap_alloc_new w _)
  have HS0 : Hid (S10 w.heap.size k x0 x1 x2 pk nk ck pd nd cd n w W) := Lib.hid ⟨cell_of_row _ _ 0 _ _ _ hr0, cell_of_row _ _ 1 _ _ _ hr0, cell_of_row _ _ 2 _ _ _ hr0, cell_of_row _ _ 3 _ _ _ hr0, cell_of_row _ _ 4 _ _ _ hr0, cell_of_row _ _ 5 _ _ _ hr0, cell_of_row _ _ 6 _ _ _ hr0,
    cell_of_row _ _ 0 _ _ _ hr, cell_of_row _ _ 1 _ _ _ hr, cell_of_row _ _ 2 _ _ _ hr, hb⟩
  have HC1 : Hid (∀ W, Hid (S10 w.heap.size k x0 x1 x2 pk nk ck pd nd cd n w W) → Calls Tryz.prog 96 #[.agg #[.int .i64 k, .int .i64 x0, .int .i64 x1, .string x2, .slice pk nk ck, .slice pd nd cd, .int .i64 n]] W fun e W' => e = .returned (.bool O) ∧ Hid (S10 w.heap.size k x0 x1 x2 pk nk ck pd nd cd n w W')) :=
    Lib.hid fun W h => (hG1 W h.out.2.2.2.2.2.2.2.2.2.2).mono fun e W' hh => ⟨hh.1, Lib.hid (s10_step h.out hh.2)⟩
  have HC2 : Hid (∀ W, Hid (S10 w.heap.size k x0 x1 x2 pk nk ck pd nd cd n w W) → Calls Tryz.prog 97 #[.agg #[.int .i64 k, .int .i64 x0, .int .i64 x1, .string x2, .slice pk nk ck, .slice pd nd cd, .int .i64 n]] W fun e W' => e = .returned (.bool S) ∧ Hid (S10 w.heap.size k x0 x1 x2 pk nk ck pd nd cd n w W')) :=
    Lib.hid fun W h => (hG2 W h.out.2.2.2.2.2.2.2.2.2.2).mono fun e W' hh => ⟨hh.1, Lib.hid (s10_step h.out hh.2)⟩
  have HC3 : Hid (∀ W, Hid (S10 w.heap.size k x0 x1 x2 pk nk ck pd nd cd n w W) → Calls Tryz.prog 98 #[.agg #[.int .i64 k, .int .i64 x0, .int .i64 x1, .string x2, .slice pk nk ck, .slice pd nd cd, .int .i64 n]] W fun e W' => e = .returned (.bool M) ∧ Hid (S10 w.heap.size k x0 x1 x2 pk nk ck pd nd cd n w W')) :=
    Lib.hid fun W h => (hG3 W h.out.2.2.2.2.2.2.2.2.2.2).mono fun e W' hh => ⟨hh.1, Lib.hid (s10_step h.out hh.2)⟩
  have HP : Hid (∀ W, Calls Tryz.prog 81 #[.int .i64 k, .int .i64 3] W fun e W' => e = .returned (.bool (plB k 3)) ∧ W' = W) := Lib.hid fun W => isPlace_any k 3 W
  have HW := Lib.hid hW
  clear hG1 hG2 hG3 hr hz hb hr0 hW
  by_cases c0 : k = 0
  · subst c0
    rw [if_pos rfl]
    have hpl : plB 0 3 = true := by decide
    rw [hpl] at HP
    clear hpl
    go_enter Tryz.func83, Tryz.ntmps83
    go_wp2_with fail
    rw [HW.out]
    go_region_held3 (S10 w.heap.size 0 x0 x1 x2 pk nk ck pd nd cd n w) (first | exact Hid.out (by assumption) | exact s10_drew (Hid.out (by assumption))) (first
      | ((with_reducible refine (HP.out _).mono ?_); rintro e wq ⟨rfl, rfl⟩)
      | ((with_reducible refine (HC1.out _ (by first | assumption | exact Lib.hid (s10_drew (Hid.out (by assumption))))).mono ?_); rintro e wq ⟨rfl, hbq⟩))
    have HQ := hbq.out.2.2.2.2.2.2.2.2.2.2
    go_wp2_with fail
    go_ret
    exact ⟨rfl, HQ⟩
  by_cases c1 : k = 1
  · subst c1
    rw [if_neg (by decide), if_pos rfl]
    have hpl : plB 1 3 = true := by decide
    rw [hpl] at HP
    clear hpl
    go_enter Tryz.func83, Tryz.ntmps83
    go_wp2_with fail
    rw [HW.out]
    go_region_held3 (S10 w.heap.size 1 x0 x1 x2 pk nk ck pd nd cd n w) (first | exact Hid.out (by assumption) | exact s10_drew (Hid.out (by assumption))) (first
      | ((with_reducible refine (HP.out _).mono ?_); rintro e wq ⟨rfl, rfl⟩)
      | ((with_reducible refine (HC2.out _ (by first | assumption | exact Lib.hid (s10_drew (Hid.out (by assumption))))).mono ?_); rintro e wq ⟨rfl, hbq⟩))
    have HQ := hbq.out.2.2.2.2.2.2.2.2.2.2
    go_wp2_with fail
    go_ret
    exact ⟨rfl, HQ⟩
  by_cases c2 : k = 2
  · subst c2
    rw [if_neg (by decide), if_neg (by decide), if_pos rfl]
    have hpl : plB 2 3 = true := by decide
    rw [hpl] at HP
    clear hpl
    go_enter Tryz.func83, Tryz.ntmps83
    go_wp2_with fail
    rw [HW.out]
    go_region_held3 (S10 w.heap.size 2 x0 x1 x2 pk nk ck pd nd cd n w) (first | exact Hid.out (by assumption) | exact s10_drew (Hid.out (by assumption))) (first
      | ((with_reducible refine (HP.out _).mono ?_); rintro e wq ⟨rfl, rfl⟩)
      | ((with_reducible refine (HC3.out _ (by first | assumption | exact Lib.hid (s10_drew (Hid.out (by assumption))))).mono ?_); rintro e wq ⟨rfl, hbq⟩))
    have HQ := hbq.out.2.2.2.2.2.2.2.2.2.2
    go_wp2_with fail
    go_ret
    exact ⟨rfl, HQ⟩
  have hpl : plB k 3 = false := by
    cases hq : plB k 3
    · rfl
    · have := plB_iff.1 hq
      omega
  rw [hpl] at HP
  rw [if_neg c0, if_neg c1, if_neg c2]
  go_enter Tryz.func83, Tryz.ntmps83
  go_wp2_with fail
  rw [HW.out]
  obtain ⟨q0, q1, q2, q3, q4, q5, q6, _, _, _, HQ⟩ := HS0.out
  go_quiet ((go_at_call 81; exact Calls.quiet_of_same (HP.out _)))
  go_wp2_with fail
  go_ret
  exact ⟨rfl, below_drewN HQ _⟩
end Go.Proofs.YtepelpmkmhhokaaGreatDoor
