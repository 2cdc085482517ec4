/- The statements' own first check tells true. Conditions: the variables lie as the initialisation lays them. -/
import Derived.Test.YtohekmioeifpfaaDoorRows
import Derived.Test.YtohekmioeifpfaaDoorCmp
import Derived.WalkKit
import Derived.WalkLawsBesides
import Derived.WalkSpells
import Derived.Outline
import Derived.Lib.Hide
import Derived.Deep.QuietTactic
import Derived.BigQuiet
import Derived.Deep.RegionHeld3
import Derived.Deep.RegionWith
import Derived.Deep.DrawnRows
import Derived.Deep.DeepCutAuto
import Derived.Laws.IdiomStrings
import Derived.Deep.MidRow
import Derived.RegionTactic
import Derived.ChangeAlike
namespace Go.Proofs.YtohekmioeifpfaaDoor
open Go.RowKit
open Rd

attribute [local go_sem ↓] Go.wp_at_zero Go.wp_at_succ
/-- fifty-nine noughts -/
def z59 : ByteArray := ⟨(List.replicate 59 (0 : UInt8)).toArray⟩
def Z59 : Array Value := #[.int .u8 0, .int .u8 0, .int .u8 0, .int .u8 0, .int .u8 0, .int .u8 0, .int .u8 0, .int .u8 0, .int .u8 0, .int .u8 0, .int .u8 0, .int .u8 0, .int .u8 0, .int .u8 0, .int .u8 0, .int .u8 0, .int .u8 0, .int .u8 0, .int .u8 0, .int .u8 0, .int .u8 0, .int .u8 0, .int .u8 0, .int .u8 0, .int .u8 0, .int .u8 0, .int .u8 0, .int .u8 0, .int .u8 0, .int .u8 0, .int .u8 0, .int .u8 0, .int .u8 0, .int .u8 0, .int .u8 0, .int .u8 0, .int .u8 0, .int .u8 0, .int .u8 0, .int .u8 0, .int .u8 0, .int .u8 0, .int .u8 0, .int .u8 0, .int .u8 0, .int .u8 0, .int .u8 0, .int .u8 0, .int .u8 0, .int .u8 0, .int .u8 0, .int .u8 0, .int .u8 0, .int .u8 0, .int .u8 0, .int .u8 0, .int .u8 0, .int .u8 0, .int .u8 0]
theorem mk59 (w : World) : (Instr.makeSlice 40 (.int .i64 59) (.int .i64 59)).run Tryd.prog w = .ok (.slice (some ⟨w.heap.size, 0, none⟩) 59 59) (w.alloc (.cells Z59 5)) := by kernel_rfl
theorem cvBytes (l : List UInt8) (w : World) (g n : Nat) (hn : l.length = n) (h : w.heap[g]? = some (.cells (l.map fun b => Value.int .u8 (b.toNat : Int)).toArray 5 (0, 0))) : (convert 40 9 (.slice (some ⟨g, 0, none⟩) n n)).run Tryd.prog w = .ok (.string ⟨l.toArray⟩) w := by
  have hc := run_convert_bytes_back w 40 9 5 ⟨g, 0, none⟩ n l Tryd.underlying40 Tryd.underlying5 Tryd.underlying9 (fun j hj => by
    rw [Addr.add_mid, cell_of_row w g _ _ _ _ h, Nat.zero_add]
    simp [hj])
  rw [hn] at hc
  exact hc
theorem cv59 (w : World) (g : Nat) (h : w.heap[g]? = some (.cells Z59 5 (0, 0))) : (convert 40 9 (.slice (some ⟨g, 0, none⟩) 59 59)).run Tryd.prog w = .ok (.string z59) w :=
  cvBytes (List.replicate 59 (0 : UInt8)) w g 59 (by simp) h
theorem First_at (w : World) :
    Calls Tryd.prog 19 #[] w fun e w' => e = .returned (.agg #[.int .i64 (U F0.a), .int .i64 (U F0.b), .int .i64 (U F0.c), .int .i64 (U F0.d), .int .i64 (U F0.e), .int .i64 (U F0.f), .int .i64 (U F0.g), .int .i64 (U F0.h)]) ∧ w' = w.alloc (.cells #[.int .i64 (U F0.a), .int .i64 (U F0.b), .int .i64 (U F0.c), .int .i64 (U F0.d), .int .i64 (U F0.e), .int .i64 (U F0.f), .int .i64 (U F0.g), .int .i64 (U F0.h)] 23) := by
  go_enter Tryd.func19, Tryd.ntmps19
  go_wp2
  exact bodyPost_ret (v := .agg #[.int .i64 (U F0.a), .int .i64 (U F0.b), .int .i64 (U F0.c), .int .i64 (U F0.d), .int .i64 (U F0.e), .int .i64 (U F0.f), .int .i64 (U F0.g), .int .i64 (U F0.h)]) (by simp [results, Tryd.results19, go_sem, F0, U]) rfl ⟨rfl, rfl⟩
theorem cv_00 (u : World) : (convert 40 9 (.slice (some ⟨u.heap.size, 0, none⟩) 59 59)).run Tryd.prog (u.alloc (.cells Z59 5)) = .ok (.string z59) (u.alloc (.cells Z59 5)) := cv59 _ _ ((show (u.alloc (.cells Z59 5)).heap[u.heap.size]? = _ by have h := heap_alloc_new u (.cells Z59 5); (try simp only [World.size_alloc] at h); exact h))
theorem cv_00d (u : World) : (convert 40 9 (.slice (some ⟨u.heap.size, 0, none⟩) 59 59)).run Tryd.prog (u.alloc (.cells Z59 5)).drew = .ok (.string z59) (u.alloc (.cells Z59 5)).drew := cv59 _ _ ((show (u.alloc (.cells Z59 5)).heap[u.heap.size]? = _ by have h := heap_alloc_new u (.cells Z59 5); (try simp only [World.size_alloc] at h); exact h))
theorem cv_01 (u : World) (o0 : Obj) : (convert 40 9 (.slice (some ⟨u.heap.size, 0, none⟩) 59 59)).run Tryd.prog ((u.alloc (.cells Z59 5)).alloc o0) = .ok (.string z59) ((u.alloc (.cells Z59 5)).alloc o0) := cv59 _ _ ((Below.heap_alloc _ _ _ (by first | omega | (simp; done) | (simp; omega))).trans ((show (u.alloc (.cells Z59 5)).heap[u.heap.size]? = _ by have h := heap_alloc_new u (.cells Z59 5); (try simp only [World.size_alloc] at h); exact h)))
theorem cv_01d (u : World) (o0 : Obj) : (convert 40 9 (.slice (some ⟨u.heap.size, 0, none⟩) 59 59)).run Tryd.prog ((u.alloc (.cells Z59 5)).alloc o0).drew = .ok (.string z59) ((u.alloc (.cells Z59 5)).alloc o0).drew := cv59 _ _ ((Below.heap_alloc _ _ _ (by first | omega | (simp; done) | (simp; omega))).trans ((show (u.alloc (.cells Z59 5)).heap[u.heap.size]? = _ by have h := heap_alloc_new u (.cells Z59 5); (try simp only [World.size_alloc] at h); exact h)))
theorem cv_02 (u : World) (o0 o1 : Obj) : (convert 40 9 (.slice (some ⟨u.heap.size, 0, none⟩) 59 59)).run Tryd.prog (((u.alloc (.cells Z59 5)).alloc o0).alloc o1) = .ok (.string z59) (((u.alloc (.cells Z59 5)).alloc o0).alloc o1) := cv59 _ _ ((Below.heap_alloc _ _ _ (by first | omega | (simp; done) | (simp; omega))).trans ((Below.heap_alloc _ _ _ (by first | omega | (simp; done) | (simp; omega))).trans ((show (u.alloc (.cells Z59 5)).heap[u.heap.size]? = _ by have h := heap_alloc_new u (.cells Z59 5); (try simp only [World.size_alloc] at h); exact h))))
theorem cv_02d (u : World) (o0 o1 : Obj) : (convert 40 9 (.slice (some ⟨u.heap.size, 0, none⟩) 59 59)).run Tryd.prog (((u.alloc (.cells Z59 5)).alloc o0).alloc o1).drew = .ok (.string z59) (((u.alloc (.cells Z59 5)).alloc o0).alloc o1).drew := cv59 _ _ ((Below.heap_alloc _ _ _ (by first | omega | (simp; done) | (simp; omega))).trans ((Below.heap_alloc _ _ _ (by first | omega | (simp; done) | (simp; omega))).trans ((show (u.alloc (.cells Z59 5)).heap[u.heap.size]? = _ by have h := heap_alloc_new u (.cells Z59 5); (try simp only [World.size_alloc] at h); exact h))))
theorem cv_10 (u : World) (o0 : Obj) : (convert 40 9 (.slice (some ⟨u.heap.size + 1, 0, none⟩) 59 59)).run Tryd.prog ((u.alloc o0).alloc (.cells Z59 5)) = .ok (.string z59) ((u.alloc o0).alloc (.cells Z59 5)) := cv59 _ _ ((show ((u.alloc o0).alloc (.cells Z59 5)).heap[u.heap.size + 1]? = _ by have h := heap_alloc_new (u.alloc o0) (.cells Z59 5); (try simp only [World.size_alloc] at h); exact h))
theorem cv_10d (u : World) (o0 : Obj) : (convert 40 9 (.slice (some ⟨u.heap.size + 1, 0, none⟩) 59 59)).run Tryd.prog ((u.alloc o0).alloc (.cells Z59 5)).drew = .ok (.string z59) ((u.alloc o0).alloc (.cells Z59 5)).drew := cv59 _ _ ((show ((u.alloc o0).alloc (.cells Z59 5)).heap[u.heap.size + 1]? = _ by have h := heap_alloc_new (u.alloc o0) (.cells Z59 5); (try simp only [World.size_alloc] at h); exact h))
theorem cv_11 (u : World) (o0 o1 : Obj) : (convert 40 9 (.slice (some ⟨u.heap.size + 1, 0, none⟩) 59 59)).run Tryd.prog (((u.alloc o0).alloc (.cells Z59 5)).alloc o1) = .ok (.string z59) (((u.alloc o0).alloc (.cells Z59 5)).alloc o1) := cv59 _ _ ((Below.heap_alloc _ _ _ (by first | omega | (simp; done) | (simp; omega))).trans ((show ((u.alloc o0).alloc (.cells Z59 5)).heap[u.heap.size + 1]? = _ by have h := heap_alloc_new (u.alloc o0) (.cells Z59 5); (try simp only [World.size_alloc] at h); exact h)))
theorem cv_11d (u : World) (o0 o1 : Obj) : (convert 40 9 (.slice (some ⟨u.heap.size + 1, 0, none⟩) 59 59)).run Tryd.prog (((u.alloc o0).alloc (.cells Z59 5)).alloc o1).drew = .ok (.string z59) (((u.alloc o0).alloc (.cells Z59 5)).alloc o1).drew := cv59 _ _ ((Below.heap_alloc _ _ _ (by first | omega | (simp; done) | (simp; omega))).trans ((show ((u.alloc o0).alloc (.cells Z59 5)).heap[u.heap.size + 1]? = _ by have h := heap_alloc_new (u.alloc o0) (.cells Z59 5); (try simp only [World.size_alloc] at h); exact h)))
theorem cv_20 (u : World) (o0 o1 : Obj) : (convert 40 9 (.slice (some ⟨u.heap.size + 1 + 1, 0, none⟩) 59 59)).run Tryd.prog (((u.alloc o0).alloc o1).alloc (.cells Z59 5)) = .ok (.string z59) (((u.alloc o0).alloc o1).alloc (.cells Z59 5)) := cv59 _ _ ((show (((u.alloc o0).alloc o1).alloc (.cells Z59 5)).heap[u.heap.size + 1 + 1]? = _ by have h := heap_alloc_new ((u.alloc o0).alloc o1) (.cells Z59 5); (try simp only [World.size_alloc] at h); exact h))
theorem cv_20d (u : World) (o0 o1 : Obj) : (convert 40 9 (.slice (some ⟨u.heap.size + 1 + 1, 0, none⟩) 59 59)).run Tryd.prog (((u.alloc o0).alloc o1).alloc (.cells Z59 5)).drew = .ok (.string z59) (((u.alloc o0).alloc o1).alloc (.cells Z59 5)).drew := cv59 _ _ ((show (((u.alloc o0).alloc o1).alloc (.cells Z59 5)).heap[u.heap.size + 1 + 1]? = _ by have h := heap_alloc_new ((u.alloc o0).alloc o1) (.cells Z59 5); (try simp only [World.size_alloc] at h); exact h))
theorem bcell {W w1 : World} (hb : Below W.heap.size W w1) : (∀ b o, b < W.heap.size → w1.cell? ⟨b, o, none⟩ = W.cell? ⟨b, o, none⟩) ∧ (∀ b o, b < W.heap.size → w1.frozen? ⟨b, o, none⟩ = W.frozen? ⟨b, o, none⟩) :=
  ⟨fun b o h => hb.cell (p := ⟨b, o, none⟩) h, fun b o h => hb.frozen (p := ⟨b, o, none⟩) h⟩
theorem cat_abc : ({ data := #[97, 98, 99, 128] } ++ z59 ++ { data := #[24] } : ByteArray) = abc := by decide +kernel
theorem Compress_abc {a0 a1 : Addr} {B : Nat} (w : World) (E : Env a0 a1 B w) :
    Calls Tryd.prog 15 #[.agg #[.int .i64 (U F0.a), .int .i64 (U F0.b), .int .i64 (U F0.c), .int .i64 (U F0.d), .int .i64 (U F0.e), .int .i64 (U F0.f), .int .i64 (U F0.g), .int .i64 (U F0.h)], .string ({ data := #[97, 98, 99, 128] } ++ z59 ++ { data := #[24] } : ByteArray)] w fun e w' => e = .returned (.tuple #[.agg #[.int .i64 3128432319, .int .i64 2399260650, .int .i64 1094795486, .int .i64 1571693091, .int .i64 2953011619, .int .i64 2518121116, .int .i64 3021012833, .int .i64 4060091821], .int .i64 0]) ∧ Below w.heap.size w w' := by
  have h := Compress_ok F0 ({ data := #[97, 98, 99, 128] } ++ z59 ++ { data := #[24] } : ByteArray) (by rw [cat_abc]; rfl) w E
  rw [cat_abc, comp_abc] at h
  rw [cat_abc]
  exact h
theorem by_abc : (⟨(St.by ⟨3128432319#32, 2399260650#32, 1094795486#32, 1571693091#32, 2953011619#32, 2518121116#32, 3021012833#32, 4060091821#32⟩ 8).toArray⟩ : ByteArray) = ⟨#[186, 120, 22, 191, 143, 1, 207, 234, 65, 65, 64, 222, 93, 174, 34, 35, 176, 3, 97, 163, 150, 23, 122, 156, 180, 16, 255, 97, 242, 0, 21, 173]⟩ := by decide +kernel
theorem Bytes_abc (w : World) :
    Calls Tryd.prog 17 #[.agg #[.int .i64 3128432319, .int .i64 2399260650, .int .i64 1094795486, .int .i64 1571693091, .int .i64 2953011619, .int .i64 2518121116, .int .i64 3021012833, .int .i64 4060091821]] w fun e w' => e = .returned (.tuple #[.string ⟨#[186, 120, 22, 191, 143, 1, 207, 234, 65, 65, 64, 222, 93, 174, 34, 35, 176, 3, 97, 163, 150, 23, 122, 156, 180, 16, 255, 97, 242, 0, 21, 173]⟩, .int .i64 0]) ∧ Below w.heap.size w w' := by
  have h := Bytes_ok ⟨3128432319#32, 2399260650#32, 1094795486#32, 1571693091#32, 2953011619#32, 2518121116#32, 3021012833#32, 4060091821#32⟩ w
  rw [by_abc] at h
  exact h
set_option maxRecDepth 100000 in
set_option maxHeartbeats 2000000 in
theorem shown_any {a0 a1 : Addr} {B : Nat} (w : World) (E : Env a0 a1 B w) :
    Calls Tryd.prog 9 #[] w fun e w' => e = .returned (.bool true) ∧ Below w.heap.size w w' := by
  have HE := Lib.hid E
  clear E
  have hmk := mk59
  have hcv_00 := cv_00 w
  have hcv_00d := cv_00d w
  have hcv_01 := cv_01 w
  have hcv_01d := cv_01d w
  have hcv_02 := cv_02 w
  have hcv_02d := cv_02d w
  have hcv_10 := cv_10 w
  have hcv_10d := cv_10d w
  have hcv_11 := cv_11 w
  have hcv_11d := cv_11d w
  have hcv_20 := cv_20 w
  have hcv_20d := cv_20d w
  go_enter Tryd.func9, Tryd.ntmps9
  go_wp2
  go_cut [1, 2] (fun p e wx => ∃ g, p = .pointer (some ⟨g, 0, none⟩) ∧ e = .int .i64 0 ∧ wx.cell? ⟨g, 0, none⟩ = some (.int .i64 3128432319) ∧ wx.cell? ⟨g, 1, none⟩ = some (.int .i64 2399260650) ∧ wx.cell? ⟨g, 2, none⟩ = some (.int .i64 1094795486) ∧ wx.cell? ⟨g, 3, none⟩ = some (.int .i64 1571693091) ∧ wx.cell? ⟨g, 4, none⟩ = some (.int .i64 2953011619) ∧ wx.cell? ⟨g, 5, none⟩ = some (.int .i64 2518121116) ∧ wx.cell? ⟨g, 6, none⟩ = some (.int .i64 3021012833) ∧ wx.cell? ⟨g, 7, none⟩ = some (.int .i64 4060091821) ∧ Below w.heap.size w wx)
  case first =>
    go_region_with (first
      | (go_at_call 19; refine (First_at _).mono ?_; rintro e w1 ⟨rfl, rfl⟩)
      | (go_at_call 15; refine (Compress_abc _ (a0 := a0) (a1 := a1) (B := B) ?_).mono ?_; (refine HE.out.below ?_; refine Below.mono ?_ HE.out.bw; (repeat (first | (with_reducible exact Below.refl _ _) | (with_reducible refine Below.alloc ?_ (by first | omega | (simp; done) | (simp; omega)) _) | (with_reducible refine Below.setCell ?_ (by first | omega | (simp; done) | (simp; omega)) _) | (with_reducible refine Below.drew ?_)))); rintro e w2 ⟨rfl, hb2⟩; obtain ⟨hc2, hf2⟩ := bcell hb2; have hz2 := hb2.size; simp at hz2; have HB2 := Lib.hid hb2; clear hb2))
    all_goals (go_wp2_with fail; go_meet)
    all_goals refine ⟨_, rfl, rfl, ?_, ?_, ?_, ?_, ?_, ?_, ?_, ?_, ?_⟩
    all_goals (first | (go_simp; done) | ((repeat (first | (with_reducible exact Below.refl _ _) | (with_reducible refine Below.alloc ?_ (by first | omega | (simp; done) | (simp; omega)) _) | (with_reducible refine Below.setCell ?_ (by first | omega | (simp; done) | (simp; omega)) _) | (with_reducible refine Below.drew ?_) | (refine Below.trans ?_ (HB2.out.mono (by first | omega | (simp; done) | (simp; omega)))))); done) | (obtain ⟨⟨q0, q1, q2, q3, q4, q5, q6, q7⟩, _⟩ := eight ((HB2.out.block w.heap.size (by simp; omega)).trans (((Below.heap_alloc _ _ _ (by simp; omega)).trans (Below.heap_alloc _ _ _ (by simp))).trans (heap_alloc_new w _))); go_simp; done))
  case rest =>
    obtain ⟨g, rfl, rfl, c0, c1, c2, c3, c4, c5, c6, c7, hb⟩ := hcut
    have hgl := block_lt_of_cell c0
    have HB := Lib.hid hb
    have hsz := hb.size
    clear hb hcv_00 hcv_00d hcv_01 hcv_01d hcv_02 hcv_02d hcv_10 hcv_10d hcv_11 hcv_11d hcv_20 hcv_20d hmk
    go_wp2_with fail
    refine (Bytes_abc _).mono ?_
    rintro e w2 ⟨rfl, hb2⟩
    obtain ⟨hc2, hf2⟩ := bcell hb2
    have HB2 := Lib.hid hb2
    have hz2 := hb2.size
    clear hb2
    go_wp2_with fail
    refine (Schedule_bad ⟨#[97, 98, 99]⟩ (by decide) _ (HE.out.below' (HB.out.trans (HB2.out.mono hsz)))).mono ?_
    rintro e w3 ⟨rfl, rfl⟩
    go_wp2_with fail
    refine (Round_badRound ⟨0, 0, 0, 0, 0, 0, 0, 0⟩ 64 0 (by decide) _ (HE.out.below' (HB.out.trans (HB2.out.mono hsz)))).mono ?_
    rintro e w4 ⟨rfl, hb4⟩
    have d0 := (hb4.cell (p := ⟨g, 0, none⟩) (show g < w2.heap.size by omega)).trans ((HB2.out.cell (p := ⟨g, 0, none⟩) hgl).trans c0)
    have d7 := (hb4.cell (p := ⟨g, 7, none⟩) (show g < w2.heap.size by omega)).trans ((HB2.out.cell (p := ⟨g, 7, none⟩) hgl).trans c7)
    have hg4 : g < w4.heap.size := by have := hb4.size; omega
    have HB4 := Lib.hid hb4
    have hz4 := hb4.size
    clear hb4 hc2 hf2 c0 c1 c2 c3 c4 c5 c6 c7
    go_wp2
    go_ret
    exact ⟨rfl, ((HB.out.trans (HB2.out.mono hsz)).trans (HB4.out.mono (by omega))).alloc (by omega) _⟩
end Go.Proofs.YtohekmioeifpfaaDoor
