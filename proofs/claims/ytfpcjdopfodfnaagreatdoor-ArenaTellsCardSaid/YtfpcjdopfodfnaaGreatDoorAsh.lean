/- The statements' own example holds. Conditions: the surroundings. -/
import Derived.Test.YtfpcjdopfodfnaaGreatDoorAri2
import Derived.Test.YtfpcjdopfodfnaaGreatDoorAsx
import Derived.Test.YtfpcjdopfodfnaaGreatDoorAux
set_option maxRecDepth 100000
namespace Go.Proofs.YtfpcjdopfodfnaaGreatDoor
open Go.RowKit Go.Shelf
open Scs
open Go.Sort (HoldsK)
def k0 : Sc := (3, 0, ⟨#[98]⟩)
def k1 : Sc := (2, 2, ⟨#[]⟩)
abbrev f0 (pk pd : Option Addr) : Fn := { k := 2, x := nullS, pk := pk, ck := 2, keys := #[k0, k1], pd := pd, cd := 2, kids := #[0, 1] }
abbrev f1 : Fn := { k := 0, x := (2, 5, ⟨#[]⟩), pk := none, ck := 0, keys := #[], pd := none, cd := 0, kids := #[] }
abbrev f2 (pd : Option Addr) : Fn := { k := 1, x := nullS, pk := none, ck := 0, keys := #[], pd := pd, cd := 1, kids := #[1] }
theorem chk0 (pk pd : Option Addr) : checkG 0 [f0 pk pd, f1] = (0, 0) := by kernel_rfl
theorem chk2 (pd : Option Addr) : checkG 0 [f2 pd] = (0, 70) := by kernel_rfl
theorem kid0 (pk pd : Option Addr) : kidsG #[f0 pk pd, f1] 0 = ([1, 0], 0) := by kernel_rfl
theorem kid2 (pk pd : Option Addr) : kidsG #[f0 pk pd, f1] 2 = ([], 2) := by kernel_rfl
theorem srt0 : sortSc [k0, k1] = [k1, k0] := (sort_unique (l := [k1, k0]) (m := [k0, k1]) (List.Perm.swap _ _ _) (by
  have h : leSc k1 k0 = true := by decide +kernel
  simp [h])).symm
theorem key0 (pk pd : Option Addr) : keysG #[f0 pk pd, f1] 0 = ([k1, k0], 0) := by
  have h : keysG #[f0 pk pd, f1] 0 = (sortSc [k0, k1], 0) := by kernel_rfl
  rw [h, srt0]
theorem fnd0 (pk pd : Option Addr) : findG #[f0 pk pd, f1] 0 k1 = (1, true) := by kernel_rfl
theorem sam0 (pk pd : Option Addr) : sameG 0 0 #[f0 pk pd, f1] #[f0 pk pd, f1] = true := by kernel_rfl
theorem holdsK_of_row {α : Type} [Inhabited α] {enc : α → List Value} {k : Nat} {W : World} {b : Nat} {cs : Array Value} {T : TypeId} {d : Array α} (h : W.heap[b]? = some (.cells cs T (0, 0)))
    (hc : ∀ j, j < d.size * k → cs[j]? = some ((enc d[j / k]!)[j % k]!)) : HoldsK enc k W b 0 d := by
  intro j hj
  rw [Go.Sort.size_flatK] at hj
  rw [Go.Sort.get_flatK _ _ _ _ hj]
  exact ⟨by rw [cell_of_row _ _ _ _ _ _ h, Nat.zero_add]; exact hc j hj, frozen_of_row _ _ _ _ _ h⟩
theorem lt12 {j : Nat} (h : j < 12) : j = 0 ∨ j = 1 ∨ j = 2 ∨ j = 3 ∨ j = 4 ∨ j = 5 ∨ j = 6 ∨ j = 7 ∨ j = 8 ∨ j = 9 ∨ j = 10 ∨ j = 11 := by omega
theorem lt6 {j : Nat} (h : j < 6) : j = 0 ∨ j = 1 ∨ j = 2 ∨ j = 3 ∨ j = 4 ∨ j = 5 := by omega
/-- the example's graph lies -/
theorem graph0 (w W : World) (_hb : Below w.heap.size w W) (hz : w.heap.size + 3 ≤ W.heap.size)
    (h0 : W.heap[w.heap.size]? = some (.cells #[.int .i64 3, .int .i64 0, .string ⟨#[98]⟩, .int .i64 2, .int .i64 2, .string ⟨#[]⟩] 26 (0, 0)))
    (h1 : W.heap[w.heap.size + 1]? = some (.cells #[.int .i64 0, .int .i64 1] 3 (0, 0)))
    (h2 : W.heap[w.heap.size + 2]? = some (.cells #[.int .i64 2, .int .i64 0, .int .i64 0, .string ⟨#[]⟩, .slice (some ⟨w.heap.size, 0, none⟩) 2 2, .slice (some ⟨w.heap.size + 1, 0, none⟩) 2 2, .int .i64 0, .int .i64 2, .int .i64 5, .string ⟨#[]⟩, .slice none 0 0, .slice none 0 0] 47 (0, 0))) :
    Gl W (some ⟨w.heap.size + 2, 0, none⟩) #[f0 (some ⟨w.heap.size, 0, none⟩) (some ⟨w.heap.size + 1, 0, none⟩), f1] := by
  refine ⟨by simp, fun t ht => ?_, .inr ⟨_, 0, rfl, by omega, holdsK_of_row h2 fun j hj => ?_⟩⟩
  · have ht2 : t < 2 := ht
    obtain rfl | rfl : t = 0 ∨ t = 1 := by omega
    · refine ⟨of_decide_eq_true (by kernel_rfl), ⟨of_decide_eq_true (by kernel_rfl), fun j hj => ?_, .inr ⟨_, 0, rfl, by omega, holdsK_of_row h0 fun j hj => ?_⟩⟩, ⟨of_decide_eq_true (by kernel_rfl), .inr ⟨_, 0, rfl, by omega, fun j hj => ?_⟩⟩⟩
      · have hj2 : j < 2 := hj
        obtain rfl | rfl : j = 0 ∨ j = 1 := by omega
        · exact of_decide_eq_true (by kernel_rfl)
        · exact of_decide_eq_true (by kernel_rfl)
      · obtain rfl | rfl | rfl | rfl | rfl | rfl := lt6 hj <;> rfl
      · have hj2 : j < 2 := hj
        rw [cell_of_row _ _ _ _ _ _ h1, Nat.zero_add]
        obtain rfl | rfl : j = 0 ∨ j = 1 := by omega
        · rfl
        · rfl
    · exact ⟨of_decide_eq_true (by kernel_rfl), Sl.nil _ _, Il.nil _ _⟩
  · obtain rfl | rfl | rfl | rfl | rfl | rfl | rfl | rfl | rfl | rfl | rfl | rfl := lt12 hj <;> rfl
theorem graph2 (_w W : World) (b b' : Nat) (hz : b < W.heap.size) (hz' : b' < W.heap.size)
    (h1 : W.heap[b]? = some (.cells #[.int .i64 1] 3 (0, 0)))
    (h2 : W.heap[b']? = some (.cells #[.int .i64 1, .int .i64 0, .int .i64 0, .string ⟨#[]⟩, .slice none 0 0, .slice (some ⟨b, 0, none⟩) 1 1] 47 (0, 0))) :
    Gl W (some ⟨b', 0, none⟩) #[f2 (some ⟨b, 0, none⟩)] := by
  refine ⟨by simp, fun t ht => ?_, .inr ⟨_, 0, rfl, hz', holdsK_of_row h2 fun j hj => ?_⟩⟩
  · have ht2 : t < 1 := ht
    obtain rfl : t = 0 := by omega
    refine ⟨of_decide_eq_true (by kernel_rfl), Sl.nil _ _, ⟨of_decide_eq_true (by kernel_rfl), .inr ⟨_, 0, rfl, hz, fun j hj => ?_⟩⟩⟩
    have hj2 : j < 1 := hj
    rw [cell_of_row _ _ _ _ _ _ h1, Nat.zero_add]
    obtain rfl : j = 0 := by omega
    rfl
  · obtain rfl | rfl | rfl | rfl | rfl | rfl := lt6 hj <;> rfl
theorem at4 (w : World) (o0 o1 o2 o3 : Obj) : ∃ W, ((((w.alloc o0).alloc o1).alloc o2).alloc o3) = W ∧ W.heap.size = w.heap.size + 4 ∧ Below w.heap.size w W ∧
    W.heap[w.heap.size]? = some o0 ∧ W.heap[w.heap.size + 1]? = some o1 ∧ W.heap[w.heap.size + 2]? = some o2 ∧ W.heap[w.heap.size + 3]? = some o3 := by
  refine ⟨_, rfl, by simp, (((((Below.refl _ w).alloc (Nat.le_refl _) _).alloc (by simp) _).alloc (by simp; omega) _).alloc (by simp; omega) _), ?_, ?_, ?_, ?_⟩
  · rw [Below.heap_alloc _ _ _ (by first | (simp; done) | (simp; omega)), Below.heap_alloc _ _ _ (by first | (simp; done) | (simp; omega)), Below.heap_alloc _ _ _ (by simp)]
    exact heap_alloc_new w o0
  · rw [Below.heap_alloc _ _ _ (by first | (simp; done) | (simp; omega)), Below.heap_alloc _ _ _ (by simp)]
    have h := heap_alloc_new (w.alloc o0) o1
    rwa [World.size_alloc] at h
  · rw [Below.heap_alloc _ _ _ (by simp)]
    have h := heap_alloc_new ((w.alloc o0).alloc o1) o2
    rwa [World.size_alloc, World.size_alloc] at h
  · have h := heap_alloc_new (((w.alloc o0).alloc o1).alloc o2) o3
    rwa [World.size_alloc, World.size_alloc, World.size_alloc] at h
set_option maxHeartbeats 4000000 in
theorem shown_any (w : World) (E : Env w) : Calls Tryz.prog 9 #[] w fun e w' => e = .returned (.bool true) ∧ Below w.heap.size w w' := by
  obtain ⟨W, hW, hz, hb, h0, h1, h2, h3⟩ := at4 w (.cells #[.int .i64 3, .int .i64 0, .string ⟨#[98]⟩, .int .i64 2, .int .i64 2, .string ⟨#[]⟩] 26) (.cells #[.int .i64 0, .int .i64 1] 3)
    (.cells #[.int .i64 2, .int .i64 0, .int .i64 0, .string ⟨#[]⟩, .slice (some ⟨w.heap.size, 0, none⟩) 2 2, .slice (some ⟨w.heap.size + 1, 0, none⟩) 2 2, .int .i64 0, .int .i64 2, .int .i64 5, .string ⟨#[]⟩, .slice none 0 0, .slice none 0 0] 47)
    (.cells #[.int .i64 0, .slice (some ⟨w.heap.size + 2, 0, none⟩) 2 2] 24)
  have hG := graph0 w W hb (by omega) h0 h1 h2
  obtain ⟨L, hL⟩ : ∃ L, #[f0 (some ⟨w.heap.size, 0, none⟩) (some ⟨w.heap.size + 1, 0, none⟩), f1] = L := ⟨_, rfl⟩
  have hLs : L.size = 2 := by rw [← hL]; rfl
  have e1 : checkG 0 L.toList = (0, 0) := by rw [← hL]; exact chk0 _ _
  have e2 : kidsG L 0 = ([1, 0], 0) := by rw [← hL]; exact kid0 _ _
  have e3 : keysG L 0 = ([k1, k0], 0) := by rw [← hL]; exact key0 _ _
  have e4 : findG L 0 k1 = (1, true) := by rw [← hL]; exact fnd0 _ _
  have e5 : kidsG L 2 = ([], 2) := by rw [← hL]; exact kid2 _ _
  have e6 : sameG 0 0 L L = true := by rw [← hL]; exact sam0 _ _
  have h12 : ∀ t, t < L.size → L[t]!.keys.size ≤ 12 := fun t ht => by
    rw [hLs] at ht
    rw [← hL]
    obtain rfl | rfl : t = 0 ∨ t = 1 := by omega
    · exact of_decide_eq_true (by kernel_rfl)
    · exact of_decide_eq_true (by kernel_rfl)
  rw [hL] at hG
  have c1 := fun W E G => Check_any 0 L (some ⟨w.heap.size + 2, 0, none⟩) 2 W E G
  have c2 := fun W E G => Kids_any 0 L (some ⟨w.heap.size + 2, 0, none⟩) 2 0 W E G h12
  have c3 := fun W E G => Keys_any 0 L (some ⟨w.heap.size + 2, 0, none⟩) 2 0 W E G
  have c4 := fun W G => Find_any 0 L (some ⟨w.heap.size + 2, 0, none⟩) 2 0 k1 W G
  have c5 := fun W E G => Kids_any 0 L (some ⟨w.heap.size + 2, 0, none⟩) 2 2 W E G h12
  have c6 := fun W G => Same_any 0 0 L L (some ⟨w.heap.size + 2, 0, none⟩) (some ⟨w.heap.size + 2, 0, none⟩) 2 2 W G G
  rw [e1, hLs] at c1
  rw [e2, hLs] at c2
  rw [e3, hLs] at c3
  rw [e4, hLs] at c4
  rw [e5, hLs] at c5
  rw [e6, hLs] at c6
  have C1 := Lib.hid c1
  have C2 := Lib.hid c2
  have C3 := Lib.hid c3
  have C4 := Lib.hid c4
  have C5 := Lib.hid c5
  have C6 := Lib.hid c6
  have HE := Lib.hid E
  have HG := Lib.hid hG
  have HB := Lib.hid hb
  have HW := Lib.hid hW
  have H3 := Lib.hid h3
  have p0 : W.cell? ⟨w.heap.size + 3, 0, none⟩ = some (.int .i64 0) := cell_of_row _ _ 0 _ _ _ h3
  have p1 : W.cell? ⟨w.heap.size + 3, 1, none⟩ = some (.slice (some ⟨w.heap.size + 2, 0, none⟩) 2 2) := cell_of_row _ _ 1 _ _ _ h3
  have hlt : w.heap.size + 3 < W.heap.size := by omega
  clear c1 c2 c3 c4 c5 c6 e1 e2 e3 e4 e5 e6 h12 hL hLs hG hb hW h0 h1 h2 h3 E hz
  go_enter Tryz.func9, Tryz.ntmps9
  go_wp2_with fail
  rw [HW.out]
  refine (C1.out _ (HE.out.below HB.out) HG.out).mono ?_
  rintro e v1 ⟨rfl, hb⟩
  have p0' := (hb.cell (p := ⟨w.heap.size + 3, 0, none⟩) hlt).trans p0
  have p1' := (hb.cell (p := ⟨w.heap.size + 3, 1, none⟩) hlt).trans p1
  have HB1 := Lib.hid hb
  clear hb p0 p1
  go_wp2_with fail
  refine (C2.out _ ((HE.out.below HB.out).below HB1.out) (HG.out.below HB1.out)).mono ?_
  rintro e v2 ⟨q2, m2, rfl, hi, hb⟩
  have p0 := (hb.cell (p := ⟨w.heap.size + 3, 0, none⟩) (Nat.lt_of_lt_of_le hlt HB1.out.size)).trans p0'
  have p1 := (hb.cell (p := ⟨w.heap.size + 3, 1, none⟩) (Nat.lt_of_lt_of_le hlt HB1.out.size)).trans p1'
  have HB2 := Lib.hid (HB1.out.trans (hb.mono HB1.out.size))
  have HI2 := Lib.hid hi
  clear hi
  clear hb p0' p1'
  have p0' := p0
  have p1' := p1
  clear p0 p1
  go_wp2_with fail
  refine (C3.out _ ((HE.out.below HB.out).below HB2.out) (HG.out.below HB2.out)).mono ?_
  rintro e v3 ⟨q3, m3, rfl, hs, hb⟩
  have p0 := (hb.cell (p := ⟨w.heap.size + 3, 0, none⟩) (Nat.lt_of_lt_of_le hlt HB2.out.size)).trans p0'
  have p1 := (hb.cell (p := ⟨w.heap.size + 3, 1, none⟩) (Nat.lt_of_lt_of_le hlt HB2.out.size)).trans p1'
  have HB3 := Lib.hid (HB2.out.trans (hb.mono HB2.out.size))
  have HI3 := Lib.hid (HI2.out.below hb)
  have HS3 := Lib.hid hs
  clear hs
  clear hb p0' p1'
  have p0' := p0
  have p1' := p1
  clear p0 p1
  go_wp2_with fail
  refine (C4.out _ (HG.out.below HB3.out)).mono ?_
  rintro e v4 ⟨rfl, hb⟩
  have p0 := (hb.cell (p := ⟨w.heap.size + 3, 0, none⟩) (Nat.lt_of_lt_of_le hlt HB3.out.size)).trans p0'
  have p1 := (hb.cell (p := ⟨w.heap.size + 3, 1, none⟩) (Nat.lt_of_lt_of_le hlt HB3.out.size)).trans p1'
  have HB4 := Lib.hid (HB3.out.trans (hb.mono HB3.out.size))
  have HI4 := Lib.hid (HI3.out.below hb)
  have HS4 := Lib.hid (HS3.out.below hb)
  clear hb p0' p1'
  have p0' := p0
  have p1' := p1
  clear p0 p1
  go_wp2_with fail
  obtain ⟨W5, hW5, hz5, hb5, g0, g1⟩ := at2 v4 (.cells #[.int .i64 1] 3) (.cells #[.int .i64 1, .int .i64 0, .int .i64 0, .string ⟨#[]⟩, .slice none 0 0, .slice (some ⟨v4.heap.size, 0, none⟩) 1 1] 47)
  rw [hW5]
  have hG2 := graph2 w W5 v4.heap.size (v4.heap.size + 1) (by omega) (by omega) g0 g1
  have hc2 := Check_any 0 #[f2 (some ⟨v4.heap.size, 0, none⟩)] (some ⟨v4.heap.size + 1, 0, none⟩) 1 W5 (((HE.out.below HB.out).below HB4.out).below hb5) hG2
  rw [show checkG 0 (#[f2 (some ⟨v4.heap.size, 0, none⟩)] : Array Fn).toList = (0, 70) from chk2 _, show (#[f2 (some ⟨v4.heap.size, 0, none⟩)] : Array Fn).size = 1 from rfl] at hc2
  have hz4 := HB4.out.size
  have p0 := (hb5.cell (p := ⟨w.heap.size + 3, 0, none⟩) (Nat.lt_of_lt_of_le hlt hz4)).trans p0'
  have p1 := (hb5.cell (p := ⟨w.heap.size + 3, 1, none⟩) (Nat.lt_of_lt_of_le hlt hz4)).trans p1'
  have HB5 := Lib.hid (HB4.out.trans (hb5.mono hz4))
  have HI5 := Lib.hid (HI4.out.below hb5)
  have HS5 := Lib.hid (HS4.out.below hb5)
  clear p0' p1' hW5 hz5 hb5 g0 g1 hG2 hz4
  refine hc2.mono ?_
  rintro e v6 ⟨rfl, hb⟩
  clear hc2
  have p0' := (hb.cell (p := ⟨w.heap.size + 3, 0, none⟩) (Nat.lt_of_lt_of_le hlt HB5.out.size)).trans p0
  have p1' := (hb.cell (p := ⟨w.heap.size + 3, 1, none⟩) (Nat.lt_of_lt_of_le hlt HB5.out.size)).trans p1
  have HB6 := Lib.hid (HB5.out.trans (hb.mono HB5.out.size))
  have HI6 := Lib.hid (HI5.out.below hb)
  have HS6 := Lib.hid (HS5.out.below hb)
  clear hb p0 p1
  go_wp2_with fail
  refine (C5.out _ ((HE.out.below HB.out).below HB6.out) (HG.out.below HB6.out)).mono ?_
  rintro e v7 ⟨q7, m7, rfl, hi, hb⟩
  have p0 := (hb.cell (p := ⟨w.heap.size + 3, 0, none⟩) (Nat.lt_of_lt_of_le hlt HB6.out.size)).trans p0'
  have p1 := (hb.cell (p := ⟨w.heap.size + 3, 1, none⟩) (Nat.lt_of_lt_of_le hlt HB6.out.size)).trans p1'
  have HB7 := Lib.hid (HB6.out.trans (hb.mono HB6.out.size))
  have HI7 := Lib.hid (HI6.out.below hb)
  have HS7 := Lib.hid (HS6.out.below hb)
  clear hi
  clear hb p0' p1'
  have p0' := p0
  have p1' := p1
  clear p0 p1
  obtain ⟨g7, o7, rfl, hg7, s0, s1, s2⟩ := HS7.out.at 0 (by decide)
  replace s0 : v7.cell? ⟨g7, o7, none⟩ = some (.int .i64 2) := by simpa [k1] using s0
  clear s1 s2
  have HSL := Lib.hid hg7
  have S0 := Lib.hid s0
  clear hg7 s0
  go_wp2_with fail
  have hba : Below v7.heap.size v7 (v7.alloc (.cells #[.int .i64 1, .int .i64 0] 3)) := (Below.refl _ v7).alloc (Nat.le_refl _) _
  have hil : Il (v7.alloc (.cells #[.int .i64 1, .int .i64 0] 3)) (some ⟨v7.heap.size, 0, none⟩) #[1, 0] := ⟨by decide, .inr ⟨_, 0, rfl, by simp, fun j hj => by
    have hj2 : j < 2 := hj
    rw [cell_of_row _ _ _ _ _ _ (heap_alloc_new v7 _), Nat.zero_add]
    obtain rfl | rfl : j = 0 ∨ j = 1 := by omega
    · rfl
    · rfl⟩⟩
  have hin := ints_any #[1, 0] #[1, 0] q2 (some ⟨v7.heap.size, 0, none⟩) m2 2 _ (HI7.out.below hba) hil
  rw [decide_eq_true rfl, show (#[1, 0] : Array Int).size = 2 from rfl] at hin
  refine hin.mono ?_
  rintro e v8 ⟨rfl, hb⟩
  have hb8 : Below v7.heap.size v7 v8 := hba.trans (hb.mono (by simp))
  clear hin hil hba hb
  have p0 := (hb8.cell (p := ⟨w.heap.size + 3, 0, none⟩) (Nat.lt_of_lt_of_le hlt HB7.out.size)).trans p0'
  have p1 := (hb8.cell (p := ⟨w.heap.size + 3, 1, none⟩) (Nat.lt_of_lt_of_le hlt HB7.out.size)).trans p1'
  have s0 := (hb8.cell (p := ⟨g7, o7, none⟩) HSL.out).trans S0.out
  have HB8 := Lib.hid (HB7.out.trans (hb8.mono HB7.out.size))
  clear hb8 p0' p1'
  go_wp2_with fail
  refine (C6.out _ (HG.out.below HB8.out)).mono ?_
  rintro e v9 ⟨rfl, hb⟩
  have HB9 := Lib.hid (HB8.out.trans (hb.mono HB8.out.size))
  clear hb p0 p1 s0
  go_wp2_with fail
  go_ret
  exact ⟨rfl, HB.out.trans (HB9.out.mono HB.out.size)⟩
end Go.Proofs.YtfpcjdopfodfnaaGreatDoor
