/- Pairs are put in order by their keys, those alike as they stood. Conditions: at most twelve; they lie in a row. -/
import Derived.Test.YtfpcjdopfodfnaaGreatDoorAcl
import Derived.Test.YtfpcjdopfodfnaaGreatDoorSfs
import Derived.Shelf.SlSortCmp.InsertionK
set_option maxRecDepth 100000
namespace Go.Proofs
open Go.Shelf
def Tryz.insP_ren : Go.Shelf.Ren := ⟨fun | 20 => 101 | n => n, fun | 22 => 105 | 24 => 88 | 25 => 108 | n => n, fun | n => n⟩
theorem Tryz.insP : Go.Proofs.SlLaysF0.n20 Tryz.prog Tryz.insP_ren := {
  mixed := by kernel_rfl
  f20 := ⟨Tryz.f101.name, by decide, Tryz.func101.trans (congrArg some (by kernel_rfl))⟩
  t0 := Tryz.underlying0
  a0 := Tryz.isAgg0
  z0 := Tryz.sizeOf0
  v0 := Tryz.zeroValue0
  t3 := Tryz.underlying3
  a3 := Tryz.isAgg3
  z3 := Tryz.sizeOf3
  v3 := Tryz.zeroValue3
  t4 := Tryz.underlying4
  a4 := Tryz.isAgg4
  z4 := Tryz.sizeOf4
  v4 := Tryz.zeroValue4
  t22 := Tryz.underlying105
  a22 := Tryz.isAgg105
  z22 := Tryz.sizeOf105
  v22 := Tryz.zeroValue105
  t25 := Tryz.underlying108
  a25 := Tryz.isAgg108
  z25 := Tryz.sizeOf108
  v25 := Tryz.zeroValue108 }
end Go.Proofs
namespace Go.Proofs.YtfpcjdopfodfnaaGreatDoor
open Go.RowKit Go.Shelf
open Scs
open Go.Sort (HoldsK flatK grow)
def cmpP (x y : Pr) : Int := cmpSc x.1 y.1
set_option maxHeartbeats 1000000 in
theorem cmpP_any (x y : Pr) (w : World) : Calls Tryz.prog 65 #[pV x, pV y] w fun e w' => e = .returned (.int .i64 (cmpP x y)) ∧ ∃ q os, w' = grow (w.drewN q) os := by
  obtain ⟨⟨x0, x1, x2⟩, x3⟩ := x
  obtain ⟨⟨y0, y1, y2⟩, y3⟩ := y
  have HC := Lib.hid fun w => Compare_any (x0, x1, x2) (y0, y1, y2) w
  unfold aggS at HC
  unfold cmpP pV
  go_enter Tryz.func65, Tryz.ntmps65
  go_wp2_with fail
  refine (HC.out _).mono ?_
  rintro e w5 ⟨rfl, q, os, rfl⟩
  go_wp2_with fail
  go_ret
  exact ⟨rfl, grow3 _ _ _ _ _⟩
theorem cmpP_lays (blk off size : Nat) (w : World) : Go.Proofs.CmpLays Tryz.prog 65 #[] encP 4 cmpP blk off size w :=
  fun _ _ _ _ x y => cmpP_any x y _
def insP (d : Array Pr) : Array Pr := Go.Sort.insertionSort (ltOf cmpP) d 0 d.size
theorem grown_sortP {w : World} {g n : Nat} {os : Array Obj} (d : Array Pr) : w.grownBy (sortWorldK encP 4 w g 0 n d os) (some g) := by
  unfold sortWorldK Go.Sort.putRowK
  refine ⟨rfl, rfl, rfl, by simp [grow], fun k hk hne => ?_⟩
  rw [Go.Sort.heap_grow_old _ _ (by simpa using hk)]
  have : g ≠ k := fun e => hne (by rw [e])
  simp [Go.Sort.putRow, Go.Sort.mapBlock, Go.Sort.ahead, Array.getElem?_modify, this]
theorem swoP : Go.Sort.SWO (ltOf cmpP) := ⟨fun x => swo'.irrefl x.1, fun x y z => swo'.trans x.1 y.1 z.1, fun x y z => swo'.ntrans x.1 y.1 z.1⟩
theorem insP_perm (d : Array Pr) : (insP d).size = d.size ∧ (insP d).toList.Perm d.toList := by
  have h := (Go.Sort.insertionSort_holds (lt := ltOf cmpP) swoP d 0 d.size (Nat.zero_le _) (Nat.le_refl _)).1
  obtain ⟨h1, _, h3⟩ := h
  have e : ∀ (a : Array Pr) (n : Nat), a.size = n → a.extract 0 n = a := by rintro a n rfl; exact Array.extract_size
  rw [e _ _ h1, e _ _ rfl] at h3
  exact ⟨h1, h3⟩
theorem insSort_any (g cap : Nat) (d : Array Pr) (w : World) (hH : HoldsK encP 4 w g 0 d) (hg : g < w.heap.size) (hs : d.size ≤ 12) :
    Calls Tryz.prog 101 #[.slice (some ⟨g, 0, none⟩) d.size cap, .int .i64 0, .int .i64 (d.size : Int), .func (.func 65) #[] #[]] w fun e w' => e = .returned (.tuple #[]) ∧ HoldsK encP 4 w' g 0 (insP d) ∧ w.grownBy w' (some g) := by
  have eg : ∀ args w, (callFunc 65 args).run Tryz.prog w = .ok (.enter 65 args) w := enters_of Tryz.func65 (by kernel_rfl) rfl
  have h := AnyQ.insertionSortCmpFunc Tryz.insP 4 (fun w => Tryz.isAgg88 w) (fun w => Tryz.sizeOf88 w) encP (fun _ => rfl)
    (fun x v hv => by simp [encP] at hv; rcases hv with rfl | rfl | rfl | rfl <;> rfl) cmpP 65 #[] g 0 cap 0 d.size d w eg (cmpP_lays g 0 d.size w) hH hg (Nat.zero_le _) (Nat.le_refl _) (by omega)
  refine h.mono ?_
  rintro e w' ⟨rfl, n, os, rfl⟩
  exact ⟨rfl, holdsK_sortWorldK_c encP 4 w g 0 d _ n os hH hg (insP_perm d).1, grown_sortP _⟩
theorem stable_any (g cap : Nat) (d : Array Pr) (w : World) (hH : HoldsK encP 4 w g 0 d) (hg : g < w.heap.size) (hs : d.size ≤ 12) :
    Calls Tryz.prog 83 #[.slice (some ⟨g, 0, none⟩) d.size cap, .int .i64 (d.size : Int), .func (.func 65) #[] #[]] w fun e w' => e = .returned (.tuple #[]) ∧ HoldsK encP 4 w' g 0 (insP d) ∧ w.grownBy w' (some g) := by
  have HC := Lib.hid (insSort_any g cap d w hH hg hs)
  have i1 : ¬ (20 : Int) ≤ (d.size : Int) := by omega
  have i2 : ¬ (20 : Int) < (d.size : Int) := by omega
  clear hH
  obtain ⟨m, hm⟩ : ∃ m, d.size = m := ⟨_, rfl⟩
  rw [hm] at HC i1 i2 hs ⊢
  clear hm
  go_enter Tryz.func83, Tryz.ntmps83
  go_wp2_with fail
  refine wp_loop_rounds 1 ?_
  rw [rounds_succ]
  go_wp2_with fail
  refine HC.out.mono ?_
  rintro e w5 ⟨rfl, hh, hg⟩
  have HH := Lib.hid hh
  have HG := Lib.hid hg
  clear hh hg
  go_wp2_with fail
  refine wp_loop_rounds 1 ?_
  rw [rounds_succ]
  go_wp2_with fail
  go_end0
  exact ⟨rfl, HH.out, HG.out⟩
theorem sortStable_any (g cap : Nat) (d : Array Pr) (w : World) (hH : HoldsK encP 4 w g 0 d) (hg : g < w.heap.size) (hs : d.size ≤ 12) :
    Calls Tryz.prog 64 #[.slice (some ⟨g, 0, none⟩) d.size cap, .func (.func 65) #[] #[]] w fun e w' => e = .returned (.tuple #[]) ∧ HoldsK encP 4 w' g 0 (insP d) ∧ w.grownBy w' (some g) := by
  have HC := Lib.hid (stable_any g cap d w hH hg hs)
  clear hH
  obtain ⟨m, hm⟩ : ∃ m, d.size = m := ⟨_, rfl⟩
  rw [hm] at HC hs ⊢
  clear hm
  go_enter Tryz.func64, Tryz.ntmps64
  go_wp2_with fail
  refine HC.out.mono ?_
  rintro e w5 ⟨rfl, hh, hg⟩
  have HH := Lib.hid hh
  have HG := Lib.hid hg
  clear hh hg
  go_wp2_with fail
  go_end0
  exact ⟨rfl, HH.out, HG.out⟩
theorem stableNone_any (p : Option Addr) (cap : Nat) (w : World) :
    Calls Tryz.prog 83 #[.slice p 0 cap, .int .i64 0, .func (.func 65) #[] #[]] w fun e w' => e = .returned (.tuple #[]) ∧ w' = w := by
  have HC := Lib.hid fun w => AnyF.insertionSortCmpFunc_none Tryz.insP p cap (.func (.func 65) #[] #[]) w
  go_enter Tryz.func83, Tryz.ntmps83
  go_wp2_with fail
  refine wp_loop_rounds 1 ?_
  rw [rounds_succ]
  go_wp2_with fail
  refine (HC.out _).mono ?_
  rintro e w5 ⟨rfl, rfl⟩
  go_wp2_with fail
  refine wp_loop_rounds 1 ?_
  rw [rounds_succ]
  go_wp2_with fail
  go_end0
  exact ⟨rfl, rfl⟩
theorem sortNone_any (p : Option Addr) (cap : Nat) (w : World) :
    Calls Tryz.prog 64 #[.slice p 0 cap, .func (.func 65) #[] #[]] w fun e w' => e = .returned (.tuple #[]) ∧ w' = w := by
  have HC := Lib.hid fun w => stableNone_any p cap w
  go_enter Tryz.func64, Tryz.ntmps64
  go_wp2_with fail
  refine (HC.out _).mono ?_
  rintro e w5 ⟨rfl, rfl⟩
  go_wp2_with fail
  go_end0
  exact ⟨rfl, rfl⟩
end Go.Proofs.YtfpcjdopfodfnaaGreatDoor
