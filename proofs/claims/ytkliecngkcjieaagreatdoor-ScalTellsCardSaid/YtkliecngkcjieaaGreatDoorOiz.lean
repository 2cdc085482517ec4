/- What a reader of quoted texts meets at a sign that stands for itself; whether one of some signs stands at a place. Conditions: the library's tables lie as they are laid. Whether one of some signs stands at a place of a text. Conditions: the library's tables lie as they are laid; the signs are of one byte. -/
import Derived.Test.YtkliecngkcjieaaGreatDoorLap
import Derived.Test.YtkliecngkcjieaaGreatDoorShf2
import Derived.Test.YtkliecngkcjieaaGreatDoorBlk
set_option maxRecDepth 100000
namespace Go.Proofs.YtkliecngkcjieaaGreatDoor
open Go.RowKit Go.Shelf
open Pl
/-- a sign that was met, with how many bytes stand for it; a fault -/
def sgnV (r : Int) (n : Int) : Value := .iface 139 (.agg #[.int .i32 r, .int .i64 n])
def faultV (e : Int) : Value := .iface 141 (.int .i64 e)
def itself (r : Int) : Value := if 32 ≤ r ∧ r ≠ 127 then sgnV r (Lib.runeLen r) else faultV 42
set_option maxHeartbeats 1000000 in
theorem asItIs_any (r : Int) (w : World) : Calls Tryz.prog 110 #[.int .i32 r] w fun e w' => e = .returned (itself r) ∧ Below w.heap.size w w' := by
  have hp := plain_any r w
  have hl := fun w => Tryz.utf8_RuneLen r w
  unfold itself
  by_cases h : 32 ≤ r ∧ r ≠ 127
  · rw [if_pos h]
    rw [decide_eq_true h] at hp
    generalize Lib.runeLen r = n at hl
    have HP := Lib.hid hp
    have HL := Lib.hid hl
    clear hp hl h
    go_enter Tryz.func110, Tryz.ntmps110
    go_wp2_with fail
    refine HP.out.mono ?_
    rintro e w1 ⟨rfl, rfl⟩
    go_wp2_with fail
    refine (HL.out _).mono ?_
    rintro e w2 ⟨rfl, rfl⟩
    go_wp2_with fail
    go_ret
    exact ⟨rfl, Below.refl _ _⟩
  · rw [if_neg h]
    rw [decide_eq_false h] at hp
    have HP := Lib.hid hp
    clear hp hl h
    go_enter Tryz.func110, Tryz.ntmps110
    go_wp2_with fail
    refine HP.out.mono ?_
    rintro e w1 ⟨rfl, rfl⟩
    go_wp2_with fail
    go_ret
    exact ⟨rfl, Below.refl _ _⟩
end Go.Proofs.YtkliecngkcjieaaGreatDoor

set_option maxRecDepth 100000
namespace Go.Proofs.YtkliecngkcjieaaGreatDoor
open Go.RowKit Go.Shelf
open Pl
def standsL (l : List Int) (L : List UInt8) : Bool := match L with | [] => false | b :: _ => has l (b.toNat : Int)
set_option maxHeartbeats 1000000 in
theorem stands_any (s : ByteArray) (_hs : s.size ≤ 1099511627776) (k : Nat) (hk : k ≤ 1099511627776) (b : Nat) (l : List Int) (c : Nat) (hl : ∀ y ∈ l, y < 128) (hm : l.length ≤ 1000) (w : World) (E : Env w) (hr : Row32 b l w) :
    Calls Tryz.prog 71 #[.string s, .int .i64 k, .slice (some ⟨b, 0, none⟩) l.length c] w fun e w' => e = .returned (.bool (standsL l (s.data.toList.drop k))) ∧ Below w.heap.size w w' := by
  have hsz := size_list s
  have h0 : ¬ (k : Int) < 0 := by omega
  by_cases hlt : k < s.size
  · have hD := Tryz.utf8_DecodeRuneInString (s.extract k s.size) w E.tabs
    have hes : (s.extract k s.size).size = s.size - k := by simp
    unfold Go.Lib.decodeGo at hD
    rw [if_neg (by omega)] at hD
    obtain ⟨x, t, hx, hdec⟩ := decode_head (s.extract k s.size) (by omega)
    have hx' : s.data.toList.drop k = x :: t := by
      rw [Go.Lib.ext_list] at hx
      exact hx
    rw [hx']
    obtain ⟨R, hR⟩ : ∃ R, (Utf8.decode (s.extract k s.size) 0).1 = R := ⟨_, rfl⟩
    obtain ⟨K, hK⟩ : ∃ R, (Utf8.decode (s.extract k s.size) 0).2 = R := ⟨_, rfl⟩
    rw [hR, hK] at hD
    have hh : has l (R : Int) = standsL l (x :: t) := by
      show _ = has l (x.toNat : Int)
      rcases hdec with ⟨hb, he⟩ | ⟨hb, he⟩
      · rw [he] at hR
        rw [← hR]
      · rw [hR] at he
        rw [has_not_high hl (by omega), has_not_high hl (by omega)]
    rw [← hh]
    have g1 : (0 : Int) ≤ (k : Int) := by omega
    have g2 : (k : Int) ≤ (s.size : Int) := by omega
    have g3 : ¬ (s.size : Int) ≤ (k : Int) := by omega
    have HD := Lib.hid hD
    have HR := Lib.hid hr
    clear hD hx hx' hdec hR hK hh hes E hr
    go_enter Tryz.func71, Tryz.ntmps71
    go_wp2_with fail
    refine HD.out.mono ?_
    rintro e w1 ⟨rfl, hb1⟩
    have HB1 := Lib.hid hb1
    have HR1 := Lib.hid (HR.out.below hb1)
    clear hb1
    go_wp2_with fail
    refine (contains_any b l R c _ hm HR1.out).mono ?_
    rintro e w' ⟨rfl, rfl⟩
    go_wp2_with fail
    go_ret
    exact ⟨rfl, HB1.out⟩
  · have hd : s.data.toList.drop k = [] := List.drop_of_length_le (by omega)
    rw [hd]
    have g3 : (s.size : Int) ≤ (k : Int) := by omega
    clear E hr
    go_enter Tryz.func71, Tryz.ntmps71
    go_wp2_with fail
    go_ret
    exact ⟨rfl, Below.refl _ _⟩
end Go.Proofs.YtkliecngkcjieaaGreatDoor
