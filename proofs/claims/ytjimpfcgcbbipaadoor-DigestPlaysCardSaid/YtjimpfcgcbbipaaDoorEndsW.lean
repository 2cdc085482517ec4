/- An end has nine to seventy-two bytes, with its message a multiple of sixty-four, and no message with its end is the end of another one with its. Conditions: the laid variables, as the statement lists them. -/
import Derived.Test.YtjimpfcgcbbipaaDoorDoor2
import Derived.Deep.DeepCutAuto
namespace Go.Proofs.YtjimpfcgcbbipaaDoor
open Go.ChangeShapes Go.WideShapes Go.ChangeAt Go.RowKit Go.Shelf
open Go.ChangeMaps (open_string shut_string)
open Rd Dg Box
/-- a text's first three hundred bytes -/
def cutB (s : ByteArray) : ByteArray := if 300 < s.size then s.extract 0 300 else s
theorem cutB_size (s : ByteArray) : (cutB s).size ≤ 300 := by
  unfold cutB
  split
  · simp [ByteArray.size_extract]; omega
  · omega
theorem cut_any (s : ByteArray) (w : World) :
    Calls Tryd.prog 11 #[.string s] w fun e w' => e = .returned (.string (cutB s)) ∧ w = w' := by
  go_enter Tryd.func11, Tryd.ntmps11
  go_wp2
  · go_ret
    exact ⟨by rw [show cutB s = s.extract 0 300 by unfold cutB; rw [if_pos (by omega)]]; rfl, rfl⟩
  · go_ret
    exact ⟨by rw [show cutB s = s by unfold cutB; rw [if_neg (by omega)]]; rfl, rfl⟩
theorem be_inj (a b : Nat) (ha : a ≤ 300) (hb : b ≤ 300) (h : be (8 * a) 8 = be (8 * b) 8) : a = b := by
  have h6 := congrArg (fun l => l[6]?) h
  have h7 := congrArg (fun l => l[7]?) h
  simp only [be, List.getElem?_map] at h6 h7
  simp at h6 h7
  have e6 := congrArg UInt8.toNat h6
  have e7 := congrArg UInt8.toNat h7
  simp at e6 e7
  omega
theorem endL_drop (S : List UInt8) : (S ++ endL S.length).drop ((S ++ endL S.length).length - 8) = be (8 * S.length) 8 := by
  have hl : (S ++ endL S.length) = (S ++ 128 :: List.replicate (zN S.length) 0) ++ be (8 * S.length) 8 := by simp [endL]
  have hn : (S ++ endL S.length).length - 8 = (S ++ 128 :: List.replicate (zN S.length) 0).length := by rw [hl, List.length_append, be_length]; omega
  rw [hn, hl, List.drop_left]
theorem ends_iff (S T : List UInt8) (hs : S.length ≤ 300) (ht : T.length ≤ 300) (hle : (S ++ endL S.length).length ≤ (T ++ endL T.length).length)
    (h : (T ++ endL T.length).drop ((T ++ endL T.length).length - (S ++ endL S.length).length) = S ++ endL S.length) : S = T := by
  have h8 : 8 ≤ (S ++ endL S.length).length := by have := (endL_bounds S.length).1; rw [List.length_append]; omega
  have hd := congrArg (fun l => l.drop ((S ++ endL S.length).length - 8)) h
  simp only [List.drop_drop] at hd
  rw [show (T ++ endL T.length).length - (S ++ endL S.length).length + ((S ++ endL S.length).length - 8) = (T ++ endL T.length).length - 8 by omega, endL_drop, endL_drop] at hd
  have hn := be_inj _ _ ht hs hd
  rw [hn] at h hle
  have hlen : (T ++ endL S.length).length - (S ++ endL S.length).length = 0 := by rw [List.length_append, List.length_append, hn]; omega
  rw [hlen, List.drop_zero] at h
  exact (List.append_cancel_right h).symm
end Go.Proofs.YtjimpfcgcbbipaaDoor
