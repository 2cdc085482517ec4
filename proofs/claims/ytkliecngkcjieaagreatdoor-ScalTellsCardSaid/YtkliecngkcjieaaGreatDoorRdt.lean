/- The digits of a number, told by the reference, are as the document tells them. Conditions: the number is in its bounds. A scalar's text, told by the reference, is as the document tells it. Conditions: the library's tables lie as they are laid; the text is not too long. -/
import Derived.Test.YtkliecngkcjieaaGreatDoorRoy
import Derived.Test.YtkliecngkcjieaaGreatDoorOrdx
import Derived.Test.YtkliecngkcjieaaGreatDoorDgt
set_option maxRecDepth 100000
namespace Go.Proofs.YtkliecngkcjieaaGreatDoor
open Go.RowKit
open Pl On Quo
set_option maxHeartbeats 4000000 in
theorem dig30 (n : Nat) (hn : n ≤ 999999999999999) : ∀ w, Calls Tryz.prog 30 #[.int .i64 (n : Nat)] w fun e w' => e = .returned (.string ⟨(Go.Lib.decDigits n).toArray⟩) ∧ ∃ m, w' = w.drewN m := by
  induction n using Nat.strongRecOn with
  | _ n ih =>
    intro w
    by_cases h10 : n < 10
    · have i1 : (n : Int) < 10 := by omega
      have i0 : ¬ (n : Int) < 0 := by omega
      have hx : (⟨#[48, 49, 50, 51, 52, 53, 54, 55, 56, 57]⟩ : ByteArray).extract n (n + 1) = ⟨(Go.Lib.decDigits n).toArray⟩ := by
        have key : ∀ n, n < 10 → (⟨#[48, 49, 50, 51, 52, 53, 54, 55, 56, 57]⟩ : ByteArray).extract n (n + 1) = ⟨(Go.Lib.decDigits n).toArray⟩ := by decide +kernel
        exact key n h10
      clear ih hn h10
      go_enter Tryz.func30, Tryz.ntmps30
      go_wp2_with fail
      go_ret
      exact ⟨rfl, 0, rfl⟩
    · have i1 : ¬ (n : Int) < 10 := by omega
      have i0 : ¬ (n : Int) < 0 := by omega
      have hr := fun w => ih (n / 10) (by omega) (by omega) w
      have e10 : ((n / 10 : Nat) : Int) = (n : Int) / 10 := by omega
      rw [e10] at hr
      have hn' : (n : Int) ≤ 999999999999999 := by omega
      have q1 : (0 : Int) ≤ (n : Int) / 10 := by omega
      have q3 : (0 : Int) ≤ (n : Int) % 10 := by omega
      have q4 : (n : Int) % 10 ≤ 9 := by omega
      have hfin : (⟨(Go.Lib.decDigits (n / 10)).toArray⟩ : ByteArray) ++ (⟨#[48, 49, 50, 51, 52, 53, 54, 55, 56, 57]⟩ : ByteArray).extract (n % 10) (n % 10 + 1) = ⟨(Go.Lib.decDigits n).toArray⟩ := by
        have key : ∀ n, n < 10 → (⟨#[48, 49, 50, 51, 52, 53, 54, 55, 56, 57]⟩ : ByteArray).extract n (n + 1) = ⟨#[UInt8.ofNat (48 + n)]⟩ := by decide +kernel
        rw [key (n % 10) (by omega)]
        conv => rhs; rw [Go.Lib.decDigits, dif_neg h10]
        apply Scs.ba_ext
        rw [ByteArray.data_append, Array.toList_append]
      have hDl : (Go.Lib.decDigits (n / 10)).length ≤ 18 := by
        have h := itoa_len ((n / 10 : Nat) : Int) (by omega) (by omega)
        unfold Go.Lib.itoa at h
        rw [if_neg (by omega), Int.toNat_natCast] at h
        exact h
      obtain ⟨D, hD⟩ : ∃ D, Go.Lib.decDigits (n / 10) = D := ⟨_, rfl⟩
      rw [hD] at hr hfin hDl
      clear hD
      have HR := Lib.hid hr
      have HF := Lib.hid hfin
      clear ih hr hfin e10 hn h10
      go_enter Tryz.func30, Tryz.ntmps30
      go_wp2_with fail
      go_quiet ((go_at_call 30; exact Calls.quiet_of (HR.out _)))
      rw [HF.out]
      go_wp2
      go_ret
      exact ⟨rfl, nq, rfl⟩
set_option maxHeartbeats 4000000 in
theorem digits30_any (n : Int) (h1 : -999999999999999 ≤ n) (h2 : n ≤ 999999999999999) (w : World) : Calls Tryz.prog 30 #[.int .i64 n] w fun e w' => e = .returned (.string ⟨(Go.Lib.itoa n).toArray⟩) ∧ Below w.heap.size w w' := by
  have hbe : ∀ m, Below w.heap.size w (w.drewN m) := fun m => ⟨rfl, rfl, rfl, Nat.le_refl _, fun _ _ => rfl⟩
  by_cases h : n < 0
  · have hr := dig30 n.natAbs (by omega)
    have e : ((n.natAbs : Nat) : Int) = -n := by omega
    rw [e] at hr
    have hlen := itoa_len n (by omega) (by omega)
    unfold Go.Lib.itoa at hlen ⊢
    rw [if_pos h] at hlen ⊢
    rw [List.length_cons] at hlen
    obtain ⟨D, hD⟩ : ∃ D, Go.Lib.decDigits n.natAbs = D := ⟨_, rfl⟩
    rw [hD] at hr hlen ⊢
    have hfin : (⟨#[45]⟩ : ByteArray) ++ (⟨D.toArray⟩ : ByteArray) = ⟨(45 :: D).toArray⟩ := by
      apply Scs.ba_ext
      rw [ByteArray.data_append, Array.toList_append]
      rfl
    have HR := Lib.hid hr
    have HF := Lib.hid hfin
    have HB := Lib.hid hbe
    clear hr hfin hD e hbe
    go_enter Tryz.func30, Tryz.ntmps30
    go_wp2_with fail
    refine (HR.out _).mono ?_
    rintro e w1 ⟨rfl, m, rfl⟩
    go_wp2_with fail
    all_goals try (exfalso; omega)
    go_ret
    exact ⟨by rw [← HF.out]; rfl, HB.out m⟩
  · have hr := dig30 n.toNat (by omega) w
    rw [Int.toNat_of_nonneg (by omega)] at hr
    unfold Go.Lib.itoa
    rw [if_neg h]
    exact hr.mono fun e w' hh => ⟨hh.1, by obtain ⟨m, rfl⟩ := hh.2; exact hbe m⟩
end Go.Proofs.YtkliecngkcjieaaGreatDoor

set_option maxRecDepth 100000
namespace Go.Proofs.YtkliecngkcjieaaGreatDoor
open Go.RowKit
open Pl On Quo Scs
set_option maxHeartbeats 8000000 in
theorem Text15_any (x : Sc) (hs : x.2.2.size ≤ 1000000) (w : World) (E : Env w) :
    Calls Tryz.prog 15 #[.agg #[.int .i64 x.1, .int .i64 x.2.1, .string x.2.2]] w fun e w' => e = .returned (.tuple #[.string (textT x), .int .i64 (textE x)]) ∧ Below w.heap.size w w' := by
  have hR := Right5_any x.1 x.2.1 x.2.2 (by omega) (w.alloc (.cells #[.int .i64 x.1, .int .i64 x.2.1, .string x.2.2] 23)) (E.below ((Below.refl _ w).alloc (Nat.le_refl _) _))
  have hr5 : rightR x.1 x.2.1 x.2.2.data.toList = rightS x := rfl
  rw [hr5] at hR
  have hba : Below w.heap.size w (w.alloc (.cells #[.int .i64 x.1, .int .i64 x.2.1, .string x.2.2] 23)) := (Below.refl _ w).alloc (Nat.le_refl _) _
  have hrow : (w.alloc (.cells #[.int .i64 x.1, .int .i64 x.2.1, .string x.2.2] 23)).heap[w.heap.size]? = some (.cells #[.int .i64 x.1, .int .i64 x.2.1, .string x.2.2] 23 (0, 0)) := heap_alloc_new w _
  have hcell : ∀ w1, Below (w.alloc (.cells #[.int .i64 x.1, .int .i64 x.2.1, .string x.2.2] 23)).heap.size (w.alloc (.cells #[.int .i64 x.1, .int .i64 x.2.1, .string x.2.2] 23)) w1 →
      Below w.heap.size w w1 ∧ w1.cell? ⟨w.heap.size, 0, none⟩ = some (.int .i64 x.1) ∧ w1.cell? ⟨w.heap.size, 1, none⟩ = some (.int .i64 x.2.1) ∧ w1.cell? ⟨w.heap.size, 2, none⟩ = some (.string x.2.2) := fun w1 hb => by
    have h := (hb.block w.heap.size (by simp)).trans hrow
    exact ⟨hba.trans (hb.mono (by simp)), cell_of_row _ _ 0 _ _ _ h, cell_of_row _ _ 1 _ _ _ h, cell_of_row _ _ 2 _ _ _ h⟩
  have HC := Lib.hid hcell
  unfold textT textE
  clear hcell hrow hba E
  cases h1 : rightS x
  · rw [h1] at hR
    rw [if_neg (by decide), if_neg (by decide)]
    have HR := Lib.hid hR
    clear hR
    go_enter Tryz.func15, Tryz.ntmps15
    go_wp2_with fail
    refine HR.out.mono ?_
    rintro e w1 ⟨rfl, hb⟩
    obtain ⟨hb1, c0, c1, c2⟩ := HC.out w1 hb
    have HB := Lib.hid hb1
    clear hb hb1
    go_wp2_with fail
    exact bodyPost_ret (v := .tuple #[.string ⟨#[]⟩, .int .i64 60]) (by simp [results, Tryz.results15, go_sem]) rfl ⟨rfl, HB.out⟩
  · rw [h1] at hR
    rw [if_pos rfl, if_pos rfl]
    have HR := Lib.hid hR
    clear hR
    rcases right_cases h1 with rfl | rfl | rfl | ⟨n, h2, h3, rfl⟩ | ⟨s, hv, rfl⟩
    · clear h1 hr5
      go_enter Tryz.func15, Tryz.ntmps15
      go_wp2_with fail
      refine HR.out.mono ?_
      rintro e w1 ⟨rfl, hb⟩
      obtain ⟨hb1, c0, c1, c2⟩ := HC.out w1 hb
      have HB := Lib.hid hb1
      clear hb hb1
      go_wp2_with fail
      exact bodyPost_ret (v := .tuple #[.string ⟨#[110, 117, 108, 108]⟩, .int .i64 0]) (by simp [results, Tryz.results15, go_sem]) rfl ⟨rfl, HB.out⟩
    · clear h1 hr5
      go_enter Tryz.func15, Tryz.ntmps15
      go_wp2_with fail
      refine HR.out.mono ?_
      rintro e w1 ⟨rfl, hb⟩
      obtain ⟨hb1, c0, c1, c2⟩ := HC.out w1 hb
      have HB := Lib.hid hb1
      clear hb hb1
      go_wp2_with fail
      exact bodyPost_ret (v := .tuple #[.string ⟨#[102, 97, 108, 115, 101]⟩, .int .i64 0]) (by simp [results, Tryz.results15, go_sem]) rfl ⟨rfl, HB.out⟩
    · clear h1 hr5
      go_enter Tryz.func15, Tryz.ntmps15
      go_wp2_with fail
      refine HR.out.mono ?_
      rintro e w1 ⟨rfl, hb⟩
      obtain ⟨hb1, c0, c1, c2⟩ := HC.out w1 hb
      have HB := Lib.hid hb1
      clear hb hb1
      go_wp2_with fail
      exact bodyPost_ret (v := .tuple #[.string ⟨#[116, 114, 117, 101]⟩, .int .i64 0]) (by simp [results, Tryz.results15, go_sem]) rfl ⟨rfl, HB.out⟩
    · have e : textL (2, n, ⟨#[]⟩) = Go.Lib.itoa n := by unfold textL; simp
      rw [e]
      have HD := Lib.hid (fun w => digits30_any n h2 h3 w)
      clear h1 hr5 e h2 h3
      go_enter Tryz.func15, Tryz.ntmps15
      go_wp2_with fail
      refine HR.out.mono ?_
      rintro e w1 ⟨rfl, hb⟩
      obtain ⟨hb1, c0, c1, c2⟩ := HC.out w1 hb
      have HB := Lib.hid hb1
      clear hb hb1
      go_wp2_with fail
      refine (HD.out _).mono ?_
      rintro e w2 ⟨rfl, hb2⟩
      have HB2 := Lib.hid (HB.out.trans (hb2.mono HB.out.size))
      clear hb2
      go_wp2_with fail
      exact bodyPost_ret (v := .tuple #[.string ⟨(Go.Lib.itoa n).toArray⟩, .int .i64 0]) (by simp [results, Tryz.results15, go_sem]) rfl ⟨rfl, HB2.out⟩
    · have e : textL (3, 0, s) = quoteL s.data.toList := by unfold textL; simp [hv]
      rw [e]
      have hq := fun w => Quote31_any s hs w
      unfold quoteT quoteE at hq
      rw [if_pos hv, if_pos hv] at hq
      have HD := Lib.hid hq
      clear h1 hr5 e hv hq
      go_enter Tryz.func15, Tryz.ntmps15
      go_wp2_with fail
      refine HR.out.mono ?_
      rintro e w1 ⟨rfl, hb⟩
      obtain ⟨hb1, c0, c1, c2⟩ := HC.out w1 hb
      have HB := Lib.hid hb1
      clear hb hb1
      go_wp2_with fail
      refine (HD.out _).mono ?_
      rintro e w2 ⟨rfl, hb2⟩
      have HB2 := Lib.hid (HB.out.trans (hb2.mono HB.out.size))
      clear hb2
      go_wp2_with fail
      exact bodyPost_ret (v := .tuple #[.string ⟨(quoteL s.data.toList).toArray⟩, .int .i64 0]) (by simp [results, Tryz.results15, go_sem]) rfl ⟨rfl, HB2.out⟩
end Go.Proofs.YtkliecngkcjieaaGreatDoor
