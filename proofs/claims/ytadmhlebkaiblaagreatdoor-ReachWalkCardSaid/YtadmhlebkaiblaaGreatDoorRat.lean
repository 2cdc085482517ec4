/- The reference tells where a path leads. Conditions: the graph and the path lie. -/
import Derived.Test.YtadmhlebkaiblaaGreatDoorRix
set_option maxRecDepth 100000
namespace Go.Proofs.YtadmhlebkaiblaaGreatDoor
open Go.RowKit Go.Shelf
open Scs Dfs
/-- where a path leads, and whether it leads anywhere -/
def atR : Option Nat → Int × Bool
  | some a => ((a : Int), true)
  | none => (0, false)
def atG (root : Int) (L : Array Fn) (l : List Int) : Int × Bool := if (checkG root L.toList).2 = 0 then atR (at_ (KN L) root.toNat l) else (0, false)
theorem at_step (kids : Nat → List Nat) (a : Nat) (P : Array Int) (t : Nat) (ht : t < P.size) :
    at_ kids a (P.toList.drop t) = if 0 ≤ P[t]! ∧ P[t]! < (kids a).length then at_ kids ((kids a)[P[t]!.toNat]!) (P.toList.drop (t + 1)) else none := by
  rw [List.drop_eq_getElem_cons (by rw [Array.length_toList]; exact ht)]
  have e : P.toList[t]'(by rw [Array.length_toList]; exact ht) = P[t]! := by rw [Array.getElem_toList, getElem!_pos P t ht]
  rw [e]
  rfl
set_option maxHeartbeats 8000000 in
theorem At18_in (root : Int) (L : Array Fn) (m : Nat) (p : Option Addr) (cap : Nat) (P : Array Int) (n : Nat) (q : Option Addr) (c : Nat) (r : Int × Bool) (w : World) (hm : L.size = m) (hn : P.size = n) (hg : Gl w p L) (hp : Il w q P) (hr : atG root L P.toList = r) :
    Calls Tryz.prog 18 #[.agg #[.int .i64 root, .slice p m cap], .slice q n c] w fun e w' => e = .returned (.tuple #[.int .i64 r.1, .bool r.2]) ∧ Below w.heap.size w w' := by
  obtain ⟨W, hW⟩ : ∃ W, (w.alloc (.cells #[.int .i64 root, .slice p m cap] 24)) = W := ⟨_, rfl⟩
  have hr0 : W.heap[w.heap.size]? = some (.cells #[.int .i64 root, .slice p m cap] 24 (0, 0)) := by rw [← hW]; exact heap_alloc_new w _
  have hb0 : Below w.heap.size w W := by rw [← hW]; exact (Below.refl _ w).alloc (Nat.le_refl _) _
  have hCK := fun W G => Right36_any root L p cap W G
  have hKD := fun (i : Int) W G => Kids15_any root L p cap i W G
  have q0 := cell_of_row _ _ 0 _ _ _ hr0
  have q1 := cell_of_row _ _ 1 _ _ _ hr0
  have hsm := hp.small
  have hck := check_right (root := root) (L := L)
  rw [hn] at hsm
  rw [hm] at hCK hKD
  have HG := Lib.hid (hg.below hb0)
  have HP := Lib.hid (hp.below hb0)
  have HW := Lib.hid hW
  have HR0 := Lib.hid hr0
  have HB0 := Lib.hid hb0
  have HN := Lib.hid hn
  have HM := Lib.hid hm
  have HKD := Lib.hid hKD
  unfold atG at hr
  clear hW hr0 hb0 hg hp hn hm hKD
  by_cases he : (checkG root L.toList).2 = 0
  · rw [if_pos he] at hr
    rw [decide_eq_true he] at hCK
    obtain ⟨hb, hroot, hlt, _⟩ := hck he
    obtain ⟨k, hk⟩ : ∃ k, root.toNat = k := ⟨_, rfl⟩
    rw [hk] at hr hroot hlt
    subst hroot
    have HCK := Lib.hid hCK
    have HBD := Lib.hid hb
    have HRR := Lib.hid hr
    have HKL := Lib.hid hlt
    clear hCK hck he hb hk hr hlt
    go_enter Tryz.func18, Tryz.ntmps18
    go_upto_region 1 with fail
    rw [HW.out]
    go_wp2_with fail
    refine (HCK.out _ HG.out).mono ?_
    rintro e w5 ⟨rfl, hb5⟩
    have HR5 := Lib.hid ((hb5.block _ (Array.getElem?_eq_some_iff.1 HR0.out).1).trans HR0.out)
    have HG5 := Lib.hid (HG.out.below hb5)
    have HP5 := Lib.hid (HP.out.below hb5)
    have HB5 := Lib.hid (HB0.out.trans (hb5.mono HB0.out.size))
    clear hb5 q0 q1
    have q0 := cell_of_row _ _ 0 _ _ _ HR5.out
    have q1 := cell_of_row _ _ 1 _ _ _ HR5.out
    go_wp2_with fail
    clear q0 q1
    go_loopw [6, 7, 8, 9] (fun x i _ _ wr => ∃ t a : Nat, t ≤ n ∧ i = .int .i64 t ∧ x = .int .i64 a ∧ a < L.size ∧ at_ (KN L) a (P.toList.drop t) = at_ (KN L) k P.toList ∧ Below w5.heap.size w5 wr) (fun _ i _ _ _ => n - (intOf i).toNat)
    case atStart => exact ⟨0, k, by omega, rfl, rfl, HKL.out, rfl, Below.refl _ _⟩
    case round =>
      obtain ⟨t, a, ht, rfl, rfl, ha, hat, hbw⟩ := hrel
      have hrr := (hbw.block _ (Array.getElem?_eq_some_iff.1 HR5.out).1).trans HR5.out
      have q0 := cell_of_row _ _ 0 _ _ _ hrr
      have q1 := cell_of_row _ _ 1 _ _ _ hrr
      have HBW := Lib.hid hbw
      have HAT := Lib.hid hat
      have HA := Lib.hid ha
      clear hbw hat ha hrr
      by_cases hlt : t < n
      · have i1 : (t : Int) < (n : Int) := by omega
        have hkd := HKD.out (a : Int) wr (HG5.out.below HBW.out)
        rw [kn_kidsG HA.out] at hkd
        simp only at hkd
        rw [kids_natI HBD.out HA.out, natI_len] at hkd
        have hkl := KN_lt HBD.out a HA.out
        have hst := at_step (KN L) a P t (by rw [HN.out]; exact hlt)
        rw [HAT.out] at hst
        obtain ⟨K, hK⟩ : ∃ K, KN L a = K := ⟨_, rfl⟩
        rw [hK] at hkd hkl hst
        obtain ⟨nk, hnk⟩ : ∃ n, K.length = n := ⟨_, rfl⟩
        rw [hnk] at hkd hst
        obtain ⟨b1, o1, rfl, hb1, hc1⟩ := HP5.out.at t (by rw [HN.out]; exact hlt)
        have x1 := (HBW.out.cell (p := ⟨b1, o1 + t, none⟩) hb1).trans hc1
        obtain ⟨z, hz⟩ : ∃ z, P[t]! = z := ⟨_, rfl⟩
        rw [hz] at x1 hst
        have HKDD := Lib.hid hkd
        have HKLL := Lib.hid hkl
        have HST := Lib.hid hst
        have HNK := Lib.hid hnk
        clear hkd hkl hst hK hnk hc1 hz
        go_wp2_with fail
        refine HKDD.out.mono ?_
        rintro e w6 ⟨pk, ck, rfl, hil, hb6⟩
        have x6 := (hb6.cell (p := ⟨b1, o1 + t, none⟩) (block_lt_of_cell x1)).trans x1
        have HIL := Lib.hid hil
        have HB6 := Lib.hid (HBW.out.trans (hb6.mono HBW.out.size))
        have HBX := Lib.hid (HB5.out.trans (HB6.out.mono HB5.out.size))
        clear hil hb6 q0 q1 x1
        by_cases h0 : z < 0
        · have HRX := Lib.hid (show r = (0, false) by rw [← HRR.out, HST.out, if_neg (by omega)]; rfl)
          go_wp2_with fail
          go_ret2
          exact ⟨by rw [HRX.out]; rfl, HBX.out⟩
        · by_cases h1 : z < (nk : Int)
          · have g1 : ¬ (z ≥ (nk : Int)) := by omega
            obtain ⟨y, rfl⟩ : ∃ y : Nat, z = y := ⟨z.toNat, by omega⟩
            have hyk : y < K.length := by rw [HNK.out]; omega
            obtain ⟨b2, o2, rfl, hb2, hc2⟩ := HIL.out.at y (by rw [List.size_toArray, natI_len]; exact hyk)
            rw [natI_get K y hyk] at hc2
            have hst := HST.out
            rw [if_pos ⟨by omega, h1⟩, Int.toNat_natCast] at hst
            have hlt2 : K[y]! < L.size := HKLL.out _ (by rw [getElem!_pos K y hyk]; exact List.getElem_mem hyk)
            obtain ⟨a2, ha2⟩ : ∃ a2, K[y]! = a2 := ⟨_, rfl⟩
            rw [ha2] at hc2 hst hlt2
            have HST2 := Lib.hid hst
            have HL2 := Lib.hid hlt2
            have g0 : decide ((y : Int) < 0) = false := decide_eq_false (by omega)
            clear hst hlt2 ha2 hyk h0
            go_wp2_with fail
            go_roundw
            case rel => exact ⟨t + 1, a2, by omega, by go_num, rfl, HL2.out, HST2.out.symm, HB6.out⟩
            case measure => simp [intOf]; omega
          · have g1 : z ≥ (nk : Int) := by omega
            have HRX := Lib.hid (show r = (0, false) by rw [← HRR.out, HST.out, if_neg (by omega)]; rfl)
            have g0 : decide (z < 0) = false := decide_eq_false h0
            go_wp2_with fail
            go_ret2
            exact ⟨by rw [HRX.out]; rfl, HBX.out⟩
      · have i1 : ¬ (t : Int) < (n : Int) := by omega
        obtain rfl : t = n := by omega
        have hdr : P.toList.drop t = [] := List.drop_eq_nil_of_le (by rw [Array.length_toList, HN.out]; exact Nat.le_refl _)
        have hat := HAT.out
        rw [hdr] at hat
        have HRX := Lib.hid (show r = ((a : Int), true) by rw [← HRR.out, ← hat]; rfl)
        clear hat hdr
        go_wp2_with fail
        go_ret2
        exact ⟨by rw [HRX.out]; rfl, HB5.out.trans (HBW.out.mono HB5.out.size)⟩
  · rw [if_neg he] at hr
    rw [decide_eq_false he] at hCK
    subst hr
    have HCK := Lib.hid hCK
    clear hCK hck he
    go_enter Tryz.func18, Tryz.ntmps18
    go_upto_region 1 with fail
    rw [HW.out]
    go_wp2_with fail
    refine (HCK.out _ HG.out).mono ?_
    rintro e w5 ⟨rfl, hb5⟩
    have HB5 := Lib.hid (HB0.out.trans (hb5.mono HB0.out.size))
    clear hb5 q0 q1
    go_wp2_with fail
    go_ret2
    exact ⟨rfl, HB5.out⟩
theorem At18_any (root : Int) (L : Array Fn) (p : Option Addr) (cap : Nat) (P : Array Int) (q : Option Addr) (c : Nat) (w : World) (hg : Gl w p L) (hp : Il w q P) :
    Calls Tryz.prog 18 #[.agg #[.int .i64 root, .slice p L.size cap], .slice q P.size c] w fun e w' => e = .returned (.tuple #[.int .i64 (atG root L P.toList).1, .bool (atG root L P.toList).2]) ∧ Below w.heap.size w w' :=
  At18_in root L L.size p cap P P.size q c _ w rfl rfl hg hp rfl
end Go.Proofs.YtadmhlebkaiblaaGreatDoor
