/- The kid under a key is told. Conditions: the surroundings; the graph lies. -/
import Derived.Test.YtfpcjdopfodfnaaGreatDoorAun
set_option maxRecDepth 100000
namespace Go.Proofs.YtfpcjdopfodfnaaGreatDoor
open Go.RowKit Go.Shelf
open Scs Seqo
theorem under_any (f : Fn) (n : Int) (x : Sc) (w : World) (hg : Nl w f) :
    Calls Tryz.prog 35 #[vV f n, aggS x] w fun e w' => e = .returned (.tuple #[.int .i64 (underR (underG f x)).1, .bool (underR (underG f x)).2]) ∧ Below w.heap.size w w' :=
  callsIn_wide.1 (under_in f n x w hg)
def findG (L : Array Fn) (i : Int) (x : Sc) : Int × Bool := if plB i L.size = true then underR (underG L[i.toNat]! x) else (0, false)
theorem vrowX {w w' : World} {b : Nat} {x : Sc} (h : w.heap[b]? = some (.cells #[.int .i64 x.1, .int .i64 x.2.1, .string x.2.2] 26 (0, 0))) (hb : Below w.heap.size w w') :
    w'.heap[b]? = some (.cells #[.int .i64 x.1, .int .i64 x.2.1, .string x.2.2] 26 (0, 0)) := (hb.block b (Array.getElem?_eq_some_iff.1 h).1).trans h
set_option maxHeartbeats 4000000 in
theorem Find_any (root : Int) (L : Array Fn) (p : Option Addr) (cap : Nat) (i : Int) (x : Sc) (w : World) (hg : Gl w p L) :
    Calls Tryz.prog 18 #[.agg #[.int .i64 root, .slice p L.size cap], .int .i64 i, aggS x] w fun e w' => e = .returned (.tuple #[.int .i64 (findG L i x).1, .bool (findG L i x).2]) ∧ Below w.heap.size w w' := by
  obtain ⟨x0, x1, x2⟩ := x
  have hb1 : ∀ o o' : Obj, Below w.heap.size w ((w.alloc o).alloc o') := fun o o' => ((Below.refl _ w).alloc (Nat.le_refl _) _).alloc (by simp) _
  have hx : ∀ o : Obj, ((w.alloc o).alloc (.cells #[.int .i64 x0, .int .i64 x1, .string x2] 26)).heap[w.heap.size + 1]? = some (.cells #[.int .i64 x0, .int .i64 x1, .string x2] 26 (0, 0)) := fun o => by
    have h := heap_alloc_new (w.alloc o) (.cells #[.int .i64 x0, .int .i64 x1, .string x2] 26)
    rwa [World.size_alloc] at h
  unfold aggS
  have HX := Lib.hid hx
  have HB1 := Lib.hid hb1
  cases hi : plB i L.size
  · have hk : findG L i (x0, x1, x2) = (0, false) := by unfold findG; rw [hi]; rfl
    rw [hk]
    have HV := Lib.hid fun w => viewAt_no root L p cap i w hi
    clear hi hk hg hb1 hx
    go_enter Tryz.func18, Tryz.ntmps18
    go_wp2_with fail
    refine (HV.out _).mono ?_
    rintro e w5 ⟨⟨why, rfl⟩, hb5⟩
    have HB5 := Lib.hid ((HB1.out _ _).trans (hb5.mono (by simp; omega)))
    clear hb5
    unfold faultV
    go_wp2_with fail
    go_ret2
    exact ⟨rfl, HB5.out.alloc HB5.out.size _⟩
  · obtain ⟨t, rfl, ht⟩ := noPlace hi
    have hk : findG L t (x0, x1, x2) = underR (underG L[t]! (x0, x1, x2)) := by unfold findG; rw [hi]; rfl
    rw [hk]
    have hv := fun w hg => viewAt_yes root L p cap t w hg ht
    have hnl := hg.nodes t ht
    obtain ⟨f, hf⟩ : ∃ f, L[t]! = f := ⟨_, rfl⟩
    rw [hf] at hv hnl ⊢
    have HV := Lib.hid fun o o' => hv ((w.alloc o).alloc o') (hg.below (hb1 o o'))
    have HN := Lib.hid hnl
    have HU := Lib.hid fun w h => under_any f L.size (x0, x1, x2) w h
    obtain ⟨n, hn⟩ : ∃ f, L.size = f := ⟨_, rfl⟩
    obtain ⟨R, hR⟩ : ∃ R, underR (underG f (x0, x1, x2)) = R := ⟨_, rfl⟩
    unfold vV at HV HU
    unfold aggS at HU
    rw [hn] at HV HU ⊢
    rw [hR] at HU ⊢
    clear hi hk hg hb1 hv hnl hf hn ht hx hR
    go_enter Tryz.func18, Tryz.ntmps18
    go_wp2_with fail
    refine (HV.out _ _).mono ?_
    rintro e w5 ⟨rfl, hb5⟩
    have hx5 := (vrowX (x := (x0, x1, x2)) (HX.out _) (hb5))
    obtain ⟨e0, e1, e2⟩ := cell3 hx5
    have HB5 := Lib.hid ((HB1.out _ _).trans (hb5.mono (by simp; omega)))
    have hlt : w.heap.size + 1 < w5.heap.size := (Array.getElem?_eq_some_iff.1 hx5).1
    simp only at e0 e1 e2
    clear hb5 hx5
    go_wp2_with fail
    refine (HU.out _ (HN.out.below (HB5.out.alloc HB5.out.size _))).mono ?_
    rintro e w6 ⟨rfl, hb6⟩
    have HB6 := Lib.hid ((HB5.out.alloc HB5.out.size _).trans (hb6.mono (by have := HB5.out.size; simp; omega)))
    clear hb6
    go_wp2_with fail
    go_ret2
    exact ⟨rfl, HB6.out⟩
end Go.Proofs.YtfpcjdopfodfnaaGreatDoor
