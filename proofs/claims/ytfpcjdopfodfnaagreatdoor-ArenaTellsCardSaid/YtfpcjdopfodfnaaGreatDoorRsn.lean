/- The reference's signs of a text are those that the text's decoder finds, in their order, or an error where it finds none. Conditions: the text is not too long. -/
import Derived.Test.YtfpcjdopfodfnaaGreatDoorRon
import Derived.Deep.DrawnRows
set_option maxRecDepth 100000
namespace Go.Proofs.YtfpcjdopfodfnaaGreatDoor
open Go.RowKit
open Pl On
theorem owns_below {B : Nat} {e : TypeId} {k : Nat} {v : Value} {n : Nat} {xs : List Value} {w w' : World} (h : w.ownsRow B e k v n xs) (hb : Below w.heap.size w w') : w'.ownsRow B e k v n xs :=
  h.kept (row := none) ⟨hb.os, hb.tape, hb.output, hb.size, fun k hk _ => hb.block k hk⟩ (by cases v.ownBlock <;> simp)
theorem owns_lt {B : Nat} {e : TypeId} {k : Nat} {v : Value} {n : Nat} {xs : List Value} {w : World} (h : w.ownsRow B e k v n xs) : ∀ q, v.ownBlock = some q → B ≤ q := fun q hq => (h.lt q hq).1
theorem news_one (w : World) (u : Value) (t : TypeId) : ∀ j v, [u][j]? = some v → (w.alloc (.cells #[u] t)).cell? ((⟨w.heap.size, 0, none⟩ : Addr).add j) = some v := by
  intro j v hj
  rw [Addr.add_mid, cell_of_row _ _ _ _ _ _ (heap_alloc_new w _), Nat.zero_add]
  simpa using hj
theorem info3i : (Tryz.prog.info? 3).map (fun i => (i.zero, i.size, i.bytes)) = some (some (.int .i64 0), 1, 8) := by kernel_rfl
def intsR (l : List Int) : List Value := l.map (Value.int .i64)
theorem intsR_snoc (rs : List Int) (k : Nat) (r : Int) (t : List Int) (h : rs.drop k = r :: t) : intsR (rs.take (k + 1)) = intsR (rs.take k) ++ [.int .i64 r] := by
  have hk : k < rs.length := by
    have := congrArg List.length h
    rw [List.length_drop, List.length_cons] at this
    omega
  have e : rs[k] = r := by
    have := congrArg (fun l : List Int => l[0]?) h
    simp only [List.getElem?_drop, Nat.add_zero, List.getElem?_cons_zero, List.getElem?_eq_getElem hk] at this
    exact Option.some.inj this
  unfold intsR
  rw [List.take_succ_eq_append_getElem hk, List.map_append, e]
  rfl
/-- what the reference's signs are -/
def SignsP (l : List UInt8) (w : World) (e : Ending) (w' : World) : Prop :=
  (Go.Lib.validD l = true → ∃ v, e = .returned (.tuple #[v, .int .i64 0]) ∧ w'.ownsRow w.heap.size 3 1 v (runesOf l).length (intsR (runesOf l))) ∧
  (Go.Lib.validD l = false → e = .returned (.tuple #[.slice none 0 0, .int .i64 40])) ∧ Below w.heap.size w w'
set_option maxRecDepth 100000 in
set_option maxHeartbeats 4000000 in
theorem Signs_any (s : ByteArray) (hs : s.size ≤ 1099511627776) (w : World) : Calls Tryz.prog 81 #[.string s] w (SignsP s.data.toList w) := by
  obtain ⟨i0, hi, hz0, hz1, hz2⟩ := info_parts info3i
  obtain ⟨l, hl⟩ : ∃ l, s.data.toList = l := ⟨_, rfl⟩
  have hlen : l.length = s.size := by rw [← hl, len_list]
  have hone := fun a h w => One_any s hs a h w
  rw [hl] at hone ⊢
  obtain ⟨rs, hrs⟩ : ∃ rs, runesOf l = rs := ⟨_, rfl⟩
  have HRS := Lib.hid hrs
  have HLN := Lib.hid hlen
  have HONE := Lib.hid hone
  clear hone hlen hl hrs
  go_enter Tryz.func81, Tryz.ntmps81
  go_wp2_with fail
  go_loopw [4, 5] (fun v i wr => ∃ p k : Nat, p ≤ s.size ∧ k ≤ p ∧ k ≤ rs.length ∧ i = .int .i64 p ∧ runesOf (l.drop p) = rs.drop k ∧ Go.Lib.validD (l.drop p) = Go.Lib.validD l ∧ wr.ownsRow w.heap.size 3 1 v k (intsR (rs.take k)) ∧ Below w.heap.size w wr) (fun _ i _ => s.size - (intOf i).toNat)
  case atStart => exact ⟨0, 0, Nat.zero_le _, Nat.le_refl _, Nat.zero_le _, rfl, HRS.out, rfl, World.ownsRow_nil _ _ _ _, Below.refl _ _⟩
  case round =>
    obtain ⟨p, k, hp, hkp, hkr, rfl, hdr, hvd, hown, hbr⟩ := hrel
    have HDR := Lib.hid hdr
    have HVD := Lib.hid hvd
    have HOW := Lib.hid hown
    have HBR := Lib.hid hbr
    clear hdr hvd hown hbr
    by_cases hlt : p < s.size
    · have h1 := HONE.out p hlt wr
      have hne : l.drop p ≠ [] := by
        intro h
        have := congrArg List.length h
        rw [List.length_drop, HLN.out, List.length_nil] at this
        omega
      have hv1 := valid_one _ hne
      have hpi : (p : Int) < (s.size : Int) := by omega
      by_cases ho : oneP (l.drop p)
      · have hr1 := runes_one _ hne ho
        have hkk := kN_pos (byN (l.drop p) 0)
        have hko : kN (byN (l.drop p) 0) ≤ s.size - p := by have h := ho.1; rw [List.length_drop, HLN.out] at h; exact h
        rw [if_pos ho] at hv1
        unfold oneR at h1
        rw [if_pos ho] at h1
        have hm := numN_lt (l.drop p) (kN (byN (l.drop p) 0))
        rw [List.drop_drop] at hv1 hr1
        obtain ⟨K, hK⟩ : ∃ K, kN (byN (l.drop p) 0) = K := ⟨_, rfl⟩
        rw [hK] at hv1 hr1 h1 hkk hko hm
        obtain ⟨m, hmm⟩ : ∃ m, numN (l.drop p) K = m := ⟨_, rfl⟩
        rw [hmm] at hr1 h1 hm
        rw [HVD.out] at hv1
        rw [HDR.out] at hr1
        have hk1 : k < rs.length := by
          have := congrArg List.length hr1
          rw [List.length_drop, List.length_cons] at this
          omega
        have HS := Lib.hid (intsR_snoc rs k _ _ hr1)
        have hd2 : runesOf (l.drop (p + K)) = rs.drop (k + 1) := by
          have := congrArg List.tail hr1
          rw [List.tail_drop, List.tail_cons] at this
          exact this.symm
        have HD2 := Lib.hid hd2
        have HV2 := Lib.hid hv1.symm
        have H1 := Lib.hid h1
        have kne : ((K : Int) == 0) = false := beq_eq_false_iff_ne.2 (by omega)
        clear h1 hd2 hv1 hr1 hK hmm ho hne
        go_wp2_with fail
        refine H1.out.mono ?_
        rintro e w1 ⟨rfl, hb1⟩
        have HB1 := Lib.hid (HBR.out.trans (hb1.mono HBR.out.size))
        have HO1 := Lib.hid (owns_below HOW.out hb1)
        clear hb1
        go_wp2_with (at_builtin; refine wpList_append_lies _ rfl _ _ 33 rfl w.heap.size 3 i0 (.int .i64 0) 1 8 Tryz.underlying33 hi hz0 hz1 hz2 rfl (by decide) u4 k (intsR (rs.take k)) rfl (HO1.out.alloc _) ⟨w1.heap.size, 0, none⟩ 1 1 [.int .i64 (m : Int)] rfl rfl (news_one w1 (.int .i64 (m : Int)) 3) (by intro u hu; simp at hu; subst hu; rfl) (by decide) (by unfold maxLen; omega) (by omega) (by have := HB1.out.size; simp; omega) _ rfl ?_; intro g cap w2 hown2 hgrow2 hor hlt2; rw [← HS.out] at hown2; have HOW2 := Lib.hid hown2; have HGR2 := Lib.hid hgrow2; clear hown2 hgrow2 hor hlt2)
        go_roundw
        case rel =>
          exact ⟨p + K, k + 1, by omega, by omega, by omega, by go_num, HD2.out, HV2.out, HOW2.out, (HB1.out.alloc HB1.out.size _).grown HGR2.out (by have := HB1.out.size; simp; omega) (fun q hq => owns_lt HO1.out q hq)⟩
        case measure => simp [intOf]; omega
      · rw [if_neg ho] at hv1
        unfold oneR at h1
        rw [if_neg ho] at h1
        have hbad : Go.Lib.validD l = false := by rw [← HVD.out]; exact hv1
        have HBAD := Lib.hid hbad
        have H1 := Lib.hid h1
        clear h1 hv1 ho hne hbad
        go_wp2_with fail
        refine H1.out.mono ?_
        rintro e w1 ⟨rfl, hb1⟩
        have HB1 := Lib.hid (HBR.out.trans (hb1.mono HBR.out.size))
        clear hb1
        go_wp2_with fail
        go_ret2
        exact ⟨fun h => by rw [HBAD.out] at h; (cases h), fun _ => rfl, HB1.out⟩
    · have hpe : p = s.size := by omega
      have hpi : ¬ (p : Int) < (s.size : Int) := by omega
      have hdn : l.drop p = [] := List.drop_eq_nil_of_le (by rw [HLN.out]; omega)
      have hvt : Go.Lib.validD l = true := by rw [← HVD.out, hdn]; rfl
      have hkl : k = rs.length := by
        have h := HDR.out
        rw [hdn, runesOf_nil] at h
        have := congrArg List.length h
        rw [List.length_drop, List.length_nil] at this
        omega
      have HVT := Lib.hid hvt
      have HKL := Lib.hid hkl
      clear hdn hvt hkl hpe
      go_wp2_with fail
      go_ret2
      refine ⟨fun _ => ⟨u4, rfl, ?_⟩, fun h => by rw [HVT.out] at h; (cases h), HBR.out⟩
      have h := HOW.out
      rw [HKL.out, List.take_length] at h
      rw [HRS.out]
      exact h
end Go.Proofs.YtfpcjdopfodfnaaGreatDoor
