/- A quoted text is read, and what any text says is told, as the document tells it; so Read tells the scalar whose text that is. Conditions: the library's tables lie as they are laid; the text is not too long. -/
import Derived.Test.YtkliecngkcjieaaGreatDoorRtz
import Derived.Test.YtkliecngkcjieaaGreatDoorTxz
set_option maxRecDepth 100000
namespace Go.Proofs.YtkliecngkcjieaaGreatDoor
open Go.RowKit Go.Shelf
open Pl Quo Scs
/-- what is read of a text that begins with a quote -/
def qtR (s : ByteArray) : Rd := if Go.Lib.validD s.data.toList = true then (readL (s.data.toList.drop 1)).put [] 1 else .err 40
theorem fold_read (L : List UInt8) (hv : Go.Lib.validD L = true) : foldM (mets L) = readL L := by
  unfold mets
  rw [fold_mets (L.length + 1) L 0 (by omega) (by omega) hv, List.drop_zero, put_zero]
set_option maxHeartbeats 4000000 in
theorem QRead_any (s : ByteArray) (t : List UInt8) (hst : s.data.toList = 34 :: t) (hs : s.size ≤ 1000000) (w : World) (E : Env w) :
    Calls Tryz.prog 51 #[.string s, .int .i64 0] w fun e w' => e = .returned (.tuple #[.string (rdT (qtR s)), .int .i64 (rdN (qtR s)), .int .i64 (rdE (qtR s))]) ∧ Below w.heap.size w w' := by
  have hsz : s.size = t.length + 1 := by
    have : s.data.toList.length = s.size := by rw [Array.length_toList]; rfl
    rw [hst, List.length_cons] at this
    omega
  have hR := right_any s (by omega) w E
  unfold qtR
  have HE := Lib.hid E
  by_cases hv : Go.Lib.validD s.data.toList = true
  · rw [if_pos hv]
    rw [hv] at hR
    have h2 : ∀ w, Env w → Calls Tryz.prog 71 #[.string s, .int .i64 0, .slice (some ⟨w.heap.size, 0, none⟩) 2 2] (w.alloc (.cells #[.int .i32 34, .int .i32 39] 21)) fun e w' => e = .returned (.bool true) ∧ Below w.heap.size w w' := fun w E => by
      have h := stands_any s (by omega) 0 (by omega) w.heap.size [34, 39] 2 (by decide) (by decide) (w.alloc (.cells #[.int .i32 34, .int .i32 39] 21)) (E.below ((Below.refl _ w).alloc (Nat.le_refl _) _)) (row32_new [34, 39])
      rw [hst] at h
      refine h.mono ?_
      rintro e w' ⟨he, hb⟩
      exact ⟨he, ((Below.refl _ w).alloc (Nat.le_refl _) _).trans (hb.mono (by rw [World.size_alloc]; omega))⟩
    have h1 : ∀ w, Env w → Calls Tryz.prog 71 #[.string s, .int .i64 0, .slice (some ⟨w.heap.size, 0, none⟩) 1 1] (w.alloc (.cells #[.int .i32 39] 21)) fun e w' => e = .returned (.bool false) ∧ Below w.heap.size w w' := fun w E => by
      have h := stands_any s (by omega) 0 (by omega) w.heap.size [39] 1 (by decide) (by decide) (w.alloc (.cells #[.int .i32 39] 21)) (E.below ((Below.refl _ w).alloc (Nat.le_refl _) _)) (row32_new [39])
      rw [hst] at h
      refine h.mono ?_
      rintro e w' ⟨he, hb⟩
      exact ⟨he, ((Below.refl _ w).alloc (Nat.le_refl _) _).trans (hb.mono (by rw [World.size_alloc]; omega))⟩
    have hvt : Go.Lib.validD t = true := by
      rw [hst, Go.Lib.validD_cons 34 t (by decide)] at hv
      exact hv
    have hx := fun Bm m w E h1 h2 => callsIn_wide.1 (readText_in s hs 1 (by omega) t (by rw [hst]; rfl) hvt Bm m w E h1 h2)
    rw [fold_read t hvt] at hx
    rw [hst]
    simp only [List.drop_succ_cons, List.drop_zero]
    obtain ⟨R, hRR⟩ : ∃ R, (readL t).put [] 1 = R := ⟨_, rfl⟩
    rw [hRR] at hx ⊢
    have HR := Lib.hid hR
    have H1 := Lib.hid h1
    have H2 := Lib.hid h2
    have HX := Lib.hid hx
    clear hR h1 h2 hx hRR hvt hv hst hsz E
    go_enter Tryz.func51, Tryz.ntmps51
    go_wp2_with fail
    refine HR.out.mono ?_
    rintro e w1 ⟨rfl, hb1⟩
    have HB1 := Lib.hid hb1
    have HE1 := Lib.hid (HE.out.below hb1)
    clear hb1
    go_wp2_with fail
    refine (H2.out _ HE1.out).mono ?_
    rintro e w2 ⟨rfl, hb2⟩
    have HB2 := Lib.hid (HB1.out.trans (hb2.mono HB1.out.size))
    have HE2 := Lib.hid (HE1.out.below hb2)
    clear hb2
    go_wp2_with fail
    refine (H1.out _ HE2.out).mono ?_
    rintro e w3 ⟨rfl, hb3⟩
    have HB3 := Lib.hid (HB2.out.trans (hb3.mono HB2.out.size))
    have HE3 := Lib.hid (HE2.out.below hb3)
    clear hb3
    go_wp2_with (go_at_call 74; refine (lookBy_any _).mono ?_; rintro e w' ⟨rfl, rfl⟩)
    have hm0 : ((w3.alloc (.map (entI signsP 0).toArray 4)).alloc (.cells #[.map (some w3.heap.size)] 143)).heap[w3.heap.size]? = some (.map (entI signsP 0).toArray 4) := by
      rw [Below.heap_alloc _ _ _ (by simp)]
      exact heap_alloc_new w3 _
    have hm1 : ((w3.alloc (.map (entI signsP 0).toArray 4)).alloc (.cells #[.map (some w3.heap.size)] 143)).heap[w3.heap.size + 1]? = some (.cells #[.map (some w3.heap.size)] 143 (0, 0)) := by
      have h := heap_alloc_new (w3.alloc (.map (entI signsP 0).toArray 4)) (.cells #[.map (some w3.heap.size)] 143)
      rwa [World.size_alloc] at h
    have hb4 : Below w3.heap.size w3 ((w3.alloc (.map (entI signsP 0).toArray 4)).alloc (.cells #[.map (some w3.heap.size)] 143)) := ((Below.refl _ w3).alloc (Nat.le_refl _) _).alloc (by simp) _
    refine (HX.out (w3.heap.size + 1) w3.heap.size _ (HE3.out.below hb4) hm1 hm0).mono ?_
    rintro e w5 ⟨rfl, hb5⟩
    have HB5 := Lib.hid (HB3.out.trans ((hb4.trans (hb5.mono hb4.size)).mono HB3.out.size))
    clear hb4 hb5 hm0 hm1
    go_wp2_with fail
    exact bodyPost_ret (v := .tuple #[.string (rdT R), .int .i64 (rdN R), .int .i64 (rdE R)]) (by simp [results, Tryz.results51, go_sem]) rfl ⟨rfl, HB5.out⟩
  · rw [if_neg hv]
    rw [Bool.not_eq_true] at hv
    rw [hv] at hR
    have HR := Lib.hid hR
    clear hR hv hst hsz E
    go_enter Tryz.func51, Tryz.ntmps51
    go_wp2_with fail
    refine HR.out.mono ?_
    rintro e w1 ⟨rfl, hb1⟩
    have HB1 := Lib.hid hb1
    clear hb1
    go_wp2_with fail
    exact bodyPost_ret (v := .tuple #[.string ⟨#[]⟩, .int .i64 0, .int .i64 40]) (by simp [results, Tryz.results51, go_sem]) rfl ⟨rfl, HB1.out⟩
theorem readL_err : ∀ (m : Nat) (l : List UInt8) (e : Int), l.length ≤ m → readL l = .err e → e = 41 ∨ e = 42
  | 0, l, e, hm, h => by
    have : l = [] := List.eq_nil_of_length_eq_zero (by omega)
    subst this; cases h; exact .inr rfl
  | m + 1, [], e, hm, h => by cases h; exact .inr rfl
  | m + 1, b :: t, e, hm, h => by
    rw [readL_cons] at h
    rw [List.length_cons] at hm
    split at h
    · cases h
    · split at h
      · split at h
        · cases h; exact .inl rfl
        · rename_i p k he
          cases hr : readL (t.drop k) with
          | ok T n => rw [hr] at h; cases h
          | err e' =>
            rw [hr] at h
            cases h
            exact readL_err m (t.drop k) _ (by rw [List.length_drop]; omega) hr
      · split at h
        · cases hr : readL t with
          | ok T n => rw [hr] at h; cases h
          | err e' =>
            rw [hr] at h
            cases h
            exact readL_err m t _ (by omega) hr
        · cases h; exact .inr rfl
/-- what a quoted text says -/
theorem said_qt (s : ByteArray) (t : List UInt8) (hst : s.data.toList = 34 :: t) : (rdE (qtR s) = 0 ∧ saidV s = .iface 9 (.string (rdT (qtR s)))) ∨ (¬ rdE (qtR s) = 0 ∧ saidV s = .nilIface) := by
  have hh : s.data.toList.head? = some 34 := by rw [hst]; rfl
  unfold saidV saidS qtR
  rw [if_pos hh]
  by_cases hv : Go.Lib.validD s.data.toList = true
  · rw [if_pos hv, if_pos hv]
    cases hr : readL (s.data.toList.drop 1) with
    | ok T n =>
      left
      refine ⟨rfl, ?_⟩
      simp only
      rw [if_pos hh]
      simp [Rd.put, rdT, ofL]
    | err e =>
      right
      have := readL_err _ _ _ (Nat.le_refl _) hr
      refine ⟨?_, rfl⟩
      simp only [Rd.put, rdE]
      omega
  · rw [if_neg hv, if_neg hv]
    exact .inr ⟨by decide, rfl⟩
set_option maxHeartbeats 4000000 in
theorem said_quot (s : ByteArray) (t : List UInt8) (hst : s.data.toList = 34 :: t) (hs : s.size ≤ 1000000) (w : World) (E : Env w) : Calls Tryz.prog 33 #[.string s] w fun e w' => e = .returned (saidV s) ∧ Below w.heap.size w w' := by
  have hB := begins_any s w
  rw [decide_eq_true (show s.data.toList.head? = some 34 by rw [hst]; rfl)] at hB
  have hQ := fun w E => QRead_any s t hst hs w E
  have hc := said_qt s t hst
  obtain ⟨R, hR⟩ : ∃ R, qtR s = R := ⟨_, rfl⟩
  rw [hR] at hQ hc
  obtain ⟨T, hT⟩ : ∃ T, rdT R = T := ⟨_, rfl⟩
  obtain ⟨N, hN⟩ : ∃ T, rdN R = T := ⟨_, rfl⟩
  obtain ⟨er, her⟩ : ∃ T, rdE R = T := ⟨_, rfl⟩
  rw [hT, hN, her] at hQ
  rw [her, hT] at hc
  have HB := Lib.hid hB
  have HQ := Lib.hid hQ
  have HE := Lib.hid E
  clear hB hQ hR hT hN her hst E
  rcases hc with ⟨he, hsd⟩ | ⟨he, hsd⟩
  · rw [hsd]
    subst he
    clear hsd
    go_enter Tryz.func33, Tryz.ntmps33
    go_wp2_with fail
    refine HB.out.mono ?_
    rintro e w1 ⟨rfl, hb1⟩
    have HE1 := Lib.hid (HE.out.below hb1)
    have HB1 := Lib.hid hb1
    clear hb1
    go_wp2_with fail
    refine (HQ.out _ HE1.out).mono ?_
    rintro e w2 ⟨rfl, hb2⟩
    have HB2 := Lib.hid (HB1.out.trans (hb2.mono HB1.out.size))
    clear hb2
    go_wp2_with fail
    go_ret
    exact ⟨rfl, HB2.out⟩
  · rw [hsd]
    have he' : (er != 0) = true := by simp [he]
    clear hsd
    go_enter Tryz.func33, Tryz.ntmps33
    go_wp2_with fail
    refine HB.out.mono ?_
    rintro e w1 ⟨rfl, hb1⟩
    have HE1 := Lib.hid (HE.out.below hb1)
    have HB1 := Lib.hid hb1
    clear hb1
    go_wp2_with fail
    refine (HQ.out _ HE1.out).mono ?_
    rintro e w2 ⟨rfl, hb2⟩
    have HB2 := Lib.hid (HB1.out.trans (hb2.mono HB1.out.size))
    clear hb2
    go_wp2_with fail
    go_ret
    exact ⟨rfl, HB2.out⟩
/-- WHAT ANY TEXT SAYS -/
theorem said_any (s : ByteArray) (hs : s.size ≤ 1000000) (w : World) (E : Env w) : Calls Tryz.prog 33 #[.string s] w fun e w' => e = .returned (saidV s) ∧ Below w.heap.size w w' := by
  by_cases h : s.data.toList.head? = some 34
  · obtain ⟨t, ht⟩ : ∃ t, s.data.toList = 34 :: t := by
      cases hl : s.data.toList with
      | nil => rw [hl] at h; cases h
      | cons b t =>
        rw [hl] at h
        injection h with h
        exact ⟨t, by rw [h]⟩
    exact said_quot s t ht hs w E
  · exact said_plain s hs h w E
/-- ████ READ TELLS THE SCALAR WHOSE TEXT THAT IS, OR THAT THERE IS NONE. -/
theorem SRead_any (s : ByteArray) (hs : s.size ≤ 1000000) (w : World) (E : Env w) : Calls Tryz.prog 16 #[.string s] w fun e w' => e = .returned (.tuple #[aggS (readS s).1, .int .i64 (readS s).2]) ∧ Below w.heap.size w w' :=
  Read_of s hs (fun w E => said_any s hs w E) w E
end Go.Proofs.YtkliecngkcjieaaGreatDoor
