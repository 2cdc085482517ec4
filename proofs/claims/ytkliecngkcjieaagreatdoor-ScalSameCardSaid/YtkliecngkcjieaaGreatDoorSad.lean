/- What a text says without quotes, and the scalar that was said. Conditions: the library's tables lie as they are laid; the text is not too long. -/
import Derived.Test.YtkliecngkcjieaaGreatDoorTxa
import Derived.Test.YtkliecngkcjieaaGreatDoorRed
import Derived.Stop.Asserts
set_option maxRecDepth 100000
namespace Go.Proofs.YtkliecngkcjieaaGreatDoor
open Go.RowKit Go.Shelf
open Pl Quo Scs
theorem begins_any (s : ByteArray) (w : World) : Calls Tryz.prog 50 #[.string s, .int .i32 34] w fun e w' => e = .returned (.bool (decide (s.data.toList.head? = some 34))) ∧ Below w.heap.size w w' := by
  by_cases h0 : 0 < s.size
  · have hnx : ∀ ty, (Instr.next (.pointer (some ⟨w.heap.size, 0, none⟩)) true ty).run Tryz.prog (w.iter s 0) = _ := fun ty => Go.Lib.run_next_any_at (w.iter s 0) w.heap.size s 0 ty (World.iter_heap w s 0) h0
    have hne : s.data.toList ≠ [] := by
      intro h
      have := congrArg List.length h
      rw [List.length_nil, Array.length_toList] at this
      have e : s.data.size = s.size := rfl
      omega
    have e : (((Utf8.decode s 0).1 : Int) == 34) = decide (s.data.toList.head? = some 34) := by
      have h1 := Go.Lib.decodeL_drop s 0
      rw [List.drop_zero] at h1
      rw [← h1]
      cases hl : s.data.toList with
      | nil => exact absurd hl hne
      | cons b t =>
        by_cases hb : b.toNat < 128
        · rw [Go.Lib.decodeL_ascii b t hb]
          by_cases h34 : b = 34
          · subst h34; rfl
          · have h34' : ¬ (b.toNat : Int) = 34 := fun h => h34 (UInt8.toNat_inj.1 (by show b.toNat = 34; omega))
            simp [h34, h34']
        · have h34 : ¬ b = 34 := by rintro rfl; exact hb (by decide)
          have hr : 128 ≤ (Go.Lib.decodeL (b :: t)).1 := by
            by_cases hv : (Go.Lib.decodeL (b :: t)).1 = 65533 ∧ (Go.Lib.decodeL (b :: t)).2 = 1
            · omega
            · exact (high_bytes (b :: t) (by simp) (by show 128 ≤ b.toNat; omega) hv).1
          have h34' : ¬ ((Go.Lib.decodeL (b :: t)).1 : Int) = 34 := by omega
          simp [h34, h34']
    obtain ⟨R, hR⟩ : ∃ R, (Utf8.decode s 0).1 = R := ⟨_, rfl⟩
    rw [hR] at hnx e
    rw [← e]
    clear e hR hne
    go_enter Tryz.func50, Tryz.ntmps50
    go_wp2
    refine wp_loop_rounds 1 ?_
    rw [rounds_succ]
    go_wp2
    go_ret
    have hi : Below w.heap.size w (w.iter s 0) := (Below.refl _ w).alloc (Nat.le_refl _) _
    exact ⟨rfl, ⟨rfl, rfl, rfl, by rw [Go.Lib.iterAt_size]; exact hi.size, fun k hk => (Go.Lib.iterAt_other _ _ _ _ _ (by omega)).trans (hi.block k hk)⟩⟩
  · have hz : s.size = 0 := by omega
    have hnx : ∀ ty, (Instr.next (.pointer (some ⟨w.heap.size, 0, none⟩)) true ty).run Tryz.prog (w.iter s 0) = _ := fun ty => Go.Lib.run_next_end_at (w.iter s 0) w.heap.size s 0 ty (World.iter_heap w s 0) (by omega)
    have e : s.data.toList.head? = none := by
      rw [toList_nil s hz]; rfl
    rw [e]
    clear e
    go_enter Tryz.func50, Tryz.ntmps50
    go_wp2
    refine wp_loop_rounds 1 ?_
    rw [rounds_succ]
    go_wp2
    go_ret
    exact ⟨rfl, (Below.refl _ w).alloc (Nat.le_refl _) _⟩
theorem scalarOf_none (w : World) : Calls Tryz.prog 32 #[.nilIface] w fun e w' => e = .returned (.tuple #[aggS zeroS, .bool false]) ∧ Below w.heap.size w w' := by
  have t0 : ∀ w, (Instr.typeAssert (.nilIface) 20 9 true).run Tryz.prog w = .ok (.tuple #[.string ⟨#[]⟩, .bool false]) w := fun _ => by kernel_rfl
  have t1 : ∀ w, (Instr.typeAssert (.nilIface) 20 23 true).run Tryz.prog w = .ok (.tuple #[.agg #[.int .i64 0, .int .i64 0, .string ⟨#[]⟩], .bool false]) w := fun _ => by kernel_rfl
  go_enter Tryz.func32, Tryz.ntmps32
  go_wp2
  exact bodyPost_ret (v := .tuple #[aggS zeroS, .bool false]) (by simp [results, Tryz.results32, go_sem, aggS, zeroS]) rfl ⟨rfl, ((Below.refl _ w).alloc (Nat.le_refl _) _).alloc (by simp) _⟩
theorem scalarOf_text (T : ByteArray) (w : World) : Calls Tryz.prog 32 #[.iface 9 (.string T)] w fun e w' => e = .returned (.tuple #[aggS (3, 0, T), .bool true]) ∧ Below w.heap.size w w' := by
  have t0 : ∀ w, (Instr.typeAssert (.iface 9 (.string T)) 20 9 true).run Tryz.prog w = .ok (.tuple #[.string T, .bool true]) w := fun _ => by kernel_rfl
  go_enter Tryz.func32, Tryz.ntmps32
  go_wp2
  exact bodyPost_ret (v := .tuple #[aggS (3, 0, T), .bool true]) (by simp [results, Tryz.results32, go_sem, aggS]) rfl ⟨rfl, (Below.refl _ w).alloc (Nat.le_refl _) _⟩
theorem scalarOf_sc (x : Sc) (w : World) : Calls Tryz.prog 32 #[.iface 23 (aggS x)] w fun e w' => e = .returned (.tuple #[aggS x, .bool true]) ∧ Below w.heap.size w w' := by
  unfold aggS
  have t0 : ∀ w, (Instr.typeAssert (.iface 23 (.agg #[.int .i64 x.1, .int .i64 x.2.1, .string x.2.2])) 20 9 true).run Tryz.prog w = .ok (.tuple #[.string ⟨#[]⟩, .bool false]) w := fun _ => by kernel_rfl
  have t1 : ∀ w, (Instr.typeAssert (.iface 23 (.agg #[.int .i64 x.1, .int .i64 x.2.1, .string x.2.2])) 20 23 true).run Tryz.prog w = .ok (.tuple #[.agg #[.int .i64 x.1, .int .i64 x.2.1, .string x.2.2], .bool true]) w := fun _ => by kernel_rfl
  go_enter Tryz.func32, Tryz.ntmps32
  go_wp2
  exact bodyPost_ret (v := .tuple #[.agg #[.int .i64 x.1, .int .i64 x.2.1, .string x.2.2], .bool true]) (by simp [results, Tryz.results32, go_sem]) rfl ⟨rfl, ((Below.refl _ w).alloc (Nat.le_refl _) _).alloc (by simp) _⟩
/-- what said answers -/
def saidV (s : ByteArray) : Value := match saidS s with
  | none => .nilIface
  | some x => if s.data.toList.head? = some 34 then .iface 9 (.string x.2.2) else .iface 23 (aggS x)
theorem said_plain (s : ByteArray) (hs : s.size ≤ 1000000) (h : s.data.toList.head? ≠ some 34) (w : World) (E : Env w) : Calls Tryz.prog 33 #[.string s] w fun e w' => e = .returned (saidV s) ∧ Below w.heap.size w w' := by
  have hB := begins_any s w
  rw [decide_eq_false h] at hB
  have hR := fun w E => Resolve_any s (by omega) w E
  unfold saidV saidS
  rw [if_neg h]
  unfold Res.val at hR
  obtain ⟨R, hRR⟩ : ∃ R, resolveR s = R := ⟨_, rfl⟩
  rw [hRR] at hR ⊢
  obtain ⟨k, n, S, er⟩ := R
  simp only at hR ⊢
  clear hRR
  have HE := Lib.hid E
  have HB := Lib.hid hB
  have HR := Lib.hid hR
  clear hB hR E
  by_cases he : er = 0
  · subst he
    rw [if_pos rfl]
    simp only
    rw [if_neg h]
    unfold aggS
    clear h
    go_enter Tryz.func33, Tryz.ntmps33
    go_wp2_with fail
    refine HB.out.mono ?_
    rintro e w1 ⟨rfl, hb1⟩
    have HE1 := Lib.hid (HE.out.below hb1)
    have HB1 := Lib.hid hb1
    clear hb1
    go_wp2_with fail
    refine (HR.out _ HE1.out).mono ?_
    rintro e w2 ⟨rfl, hb2⟩
    have HB2 := Lib.hid (HB1.out.trans (hb2.mono HB1.out.size))
    clear hb2
    go_wp2_with fail
    go_ret
    exact ⟨rfl, HB2.out.alloc HB2.out.size _⟩
  · rw [if_neg he]
    have he' : (er != 0) = true := by simp [he]
    clear h
    go_enter Tryz.func33, Tryz.ntmps33
    go_wp2_with fail
    refine HB.out.mono ?_
    rintro e w1 ⟨rfl, hb1⟩
    have HE1 := Lib.hid (HE.out.below hb1)
    have HB1 := Lib.hid hb1
    clear hb1
    go_wp2_with fail
    refine (HR.out _ HE1.out).mono ?_
    rintro e w2 ⟨rfl, hb2⟩
    have HB2 := Lib.hid (HB1.out.trans (hb2.mono HB1.out.size))
    clear hb2
    go_wp2_with fail
    go_ret
    exact ⟨rfl, HB2.out.alloc HB2.out.size _⟩
end Go.Proofs.YtkliecngkcjieaaGreatDoor
