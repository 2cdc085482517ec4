/- A map's keys are told in their order. Conditions: the surroundings; the graph lies. -/
import Derived.Test.YtfpcjdopfodfnaaGreatDoorAtx
import Derived.Test.YtfpcjdopfodfnaaGreatDoorSfs
set_option maxRecDepth 100000
namespace Go.Proofs.YtfpcjdopfodfnaaGreatDoor
open Go.RowKit Go.Shelf
open Scs Seqo
open Go.Sort (HoldsK)
theorem short_mem' {d : Array Sc} {b : Nat} (hz : ∀ t, t < d.size → d[t]!.2.2.size ≤ b) {l : List Sc} (hl : ∀ x ∈ l, x ∈ d.toList) : ∀ t, t < l.length → l.toArray[t]!.2.2.size ≤ b := fun t ht => by
  have hm : l.toArray[t]! ∈ l := by
    rw [getElem!_pos l.toArray t (by simpa using ht)]
    simp
  obtain ⟨j, hj, e⟩ := List.getElem_of_mem (hl _ hm)
  rw [Array.length_toList] at hj
  have := hz j hj
  rw [getElem!_pos d j hj] at this
  rw [← e]
  simpa using this
theorem Sort34 (d : Array Sc) (p : Option Addr) (cap n : Nat) (hn : d.size = n) (w : World) (hs : Sl w p d) :
    Calls Tryz.prog 34 #[.slice p n cap] w fun e w' => ∃ q c, e = .returned (.slice q n c) ∧ Sl w' q (sortSc d.toList).toArray ∧ Below w.heap.size w w' := by
  subst hn
  refine (Sort_any d p cap w hs).mono ?_
  rintro e w' ⟨g, c, rfl, _, hg, hh, hb⟩
  have hl : (sortSc d.toList).length = d.size := by rw [sort_length, Array.length_toList]
  exact ⟨_, _, rfl, ⟨by rw [List.size_toArray, hl]; exact hs.small, fun t ht => short_mem' hs.short (fun _ hx => (sort_perm _).mem_iff.1 hx) t (by simpa using ht), .inr ⟨g, 0, rfl, hg, hh⟩⟩, hb⟩
def pairedB (f : Fn) : Bool := if f.k = 2 then decide (f.keys.size = f.kids.size) else false
def keysOf (f : Fn) : List Sc := if pairedB f = true then sortSc f.keys.toList else []
def keysG (L : Array Fn) (i : Int) : List Sc × Int := if plB i L.size = true then (keysOf L[i.toNat]!, 0) else ([], 2)
theorem Sl.nil (w : World) (p : Option Addr) : Sl w p #[] := ⟨by decide, fun t ht => absurd ht (Nat.not_lt_zero _), .inl rfl⟩
theorem paired_any (f : Fn) (n : Int) (w : World) : Calls Tryz.prog 33 #[vV f n] w fun e w' => e = .returned (.bool (pairedB f)) ∧ Below w.heap.size w w' := isPaired_any _ _ _ _ _ _ _ _ _ _ _ w
theorem vrow {w w' : World} {b : Nat} {f : Fn} {n : Int} (h : w.heap[b]? = some (.cells #[.int .i64 f.k, .int .i64 f.x.1, .int .i64 f.x.2.1, .string f.x.2.2, .slice f.pk f.keys.size f.ck, .slice f.pd f.kids.size f.cd, .int .i64 n] 58 (0, 0))) (hb : Below w.heap.size w w') :
    w'.heap[b]? = some (.cells #[.int .i64 f.k, .int .i64 f.x.1, .int .i64 f.x.2.1, .string f.x.2.2, .slice f.pk f.keys.size f.ck, .slice f.pd f.kids.size f.cd, .int .i64 n] 58 (0, 0)) := (hb.block b (Array.getElem?_eq_some_iff.1 h).1).trans h
set_option maxHeartbeats 4000000 in
theorem Keys_any (root : Int) (L : Array Fn) (p : Option Addr) (cap : Nat) (i : Int) (w : World) (E : Env w) (hg : Gl w p L) :
    Calls Tryz.prog 16 #[.agg #[.int .i64 root, .slice p L.size cap], .int .i64 i] w fun e w' => ∃ q c, e = .returned (.tuple #[.slice q (keysG L i).1.length c, .int .i64 (keysG L i).2]) ∧ Sl w' q (keysG L i).1.toArray ∧ Below w.heap.size w w' := by
  have hb1 : ∀ o : Obj, Below w.heap.size w (w.alloc o) := fun o => (Below.refl _ w).alloc (Nat.le_refl _) _
  cases hi : plB i L.size
  · have hk : keysG L i = ([], 2) := by unfold keysG; rw [hi]; rfl
    rw [hk]
    have HV := Lib.hid fun w => viewAt_no root L p cap i w hi
    have HE := Lib.hid E
    clear hi hk hg E hb1
    go_enter Tryz.func16, Tryz.ntmps16
    go_wp2_with fail
    refine (HV.out _).mono ?_
    rintro e w5 ⟨⟨why, rfl⟩, hb5⟩
    have HB5 := Lib.hid (((Below.refl _ w).alloc (Nat.le_refl _) _).trans (hb5.mono (by simp)))
    clear hb5
    unfold faultV
    go_wp2_with fail
    refine (told_fault 0 2 why _ (HE.out.below (HB5.out.alloc HB5.out.size _))).mono ?_
    rintro e w6 ⟨rfl, hb6⟩
    have HB6 := Lib.hid ((HB5.out.alloc HB5.out.size _).trans (hb6.mono (by have := HB5.out.size; simp; omega)))
    clear hb6
    go_wp2_with fail
    go_ret2
    exact ⟨_, _, rfl, Sl.nil _ _, HB6.out⟩
  · obtain ⟨t, rfl, ht⟩ := noPlace hi
    have hk : keysG L t = (keysOf L[t]!, 0) := by unfold keysG; rw [hi]; rfl
    rw [hk]
    have hv := fun w hg => viewAt_yes root L p cap t w hg ht
    have hnl := hg.nodes t ht
    obtain ⟨f, hf⟩ : ∃ f, L[t]! = f := ⟨_, rfl⟩
    rw [hf] at hv hnl ⊢
    have HV := Lib.hid fun o => hv (w.alloc o) (hg.below (hb1 o))
    have HN := Lib.hid hnl
    have HP := Lib.hid fun w => paired_any f L.size w
    have HK := Lib.hid fun w h => Sort34 f.keys f.pk f.ck _ rfl w h
    unfold keysOf
    obtain ⟨n, hn⟩ : ∃ f, L.size = f := ⟨_, rfl⟩
    unfold vV at HV HP
    rw [hn] at HV HP ⊢
    clear hi hk hg E hb1 hv hnl hf hn ht
    cases hpb : pairedB f
    · rw [if_neg (by decide)]
      rw [hpb] at HP
      clear hpb
      go_enter Tryz.func16, Tryz.ntmps16
      go_wp2_with fail
      refine (HV.out _).mono ?_
      rintro e w5 ⟨rfl, hb5⟩
      have HB5 := Lib.hid (((Below.refl _ w).alloc (Nat.le_refl _) _).trans (hb5.mono (by simp)))
      clear hb5
      go_wp2_with fail
      refine (HP.out _).mono ?_
      rintro e w6 ⟨rfl, hb6⟩
      have HB6 := Lib.hid ((HB5.out.alloc HB5.out.size _).trans (hb6.mono (by have := HB5.out.size; simp; omega)))
      clear hb6
      go_wp2_with fail
      go_ret2
      exact ⟨_, _, rfl, Sl.nil _ _, HB6.out⟩
    · rw [if_pos rfl]
      rw [hpb] at HP
      clear hpb
      go_enter Tryz.func16, Tryz.ntmps16
      go_wp2_with fail
      refine (HV.out _).mono ?_
      rintro e w5 ⟨rfl, hb5⟩
      have HB5 := Lib.hid (((Below.refl _ w).alloc (Nat.le_refl _) _).trans (hb5.mono (by simp)))
      clear hb5
      go_wp2_with fail
      refine (HP.out _).mono ?_
      rintro e w6 ⟨rfl, hb6⟩
      have hx6 := vrow (heap_alloc_new w5 _) hb6
      have HB6 := Lib.hid ((HB5.out.alloc HB5.out.size _).trans (hb6.mono (by have := HB5.out.size; simp; omega)))
      have c4 : w6.cell? ⟨w5.heap.size, 4, none⟩ = some (.slice f.pk f.keys.size f.ck) := cell_of_row _ _ 4 _ _ _ hx6
      clear hb6 hx6
      go_wp2_with fail
      refine (HK.out _ (HN.out.ks.below HB6.out)).mono ?_
      rintro e w7 ⟨q, c, rfl, hs, hb7⟩
      have HB7 := Lib.hid (HB6.out.trans (hb7.mono HB6.out.size))
      have HS := Lib.hid hs
      clear hb7 hs c4
      go_wp2_with fail
      go_ret2
      exact ⟨q, c, by rw [sort_length, Array.length_toList]; rfl, HS.out, HB7.out⟩
end Go.Proofs.YtfpcjdopfodfnaaGreatDoor
