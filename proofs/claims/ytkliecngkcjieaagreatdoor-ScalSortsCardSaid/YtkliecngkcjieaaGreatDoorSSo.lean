/- Some scalars in order are the reference's, and twice means the same: the walk. Conditions: the contracts of what is called. -/
import Derived.Test.YtkliecngkcjieaaGreatDoorLst
set_option maxRecDepth 100000
namespace Go.Proofs.YtkliecngkcjieaaGreatDoor
open Go.ChangeShapes Go.WideShapes Go.ChangeAt Go.RowKit Go.Shelf
open Scs
set_option maxHeartbeats 8000000 in
theorem walkScalSorts (a : Option Addr) (len cap : Nat) (X : Nat → Sc) (w : World) (E : Env w)
    (hV : ∀ i, i < len → ∃ g o, a = some ⟨g, o, none⟩ ∧ g < w.heap.size ∧ w.cell? ⟨g, o + i * 3, none⟩ = some (.int .i64 (X i).1) ∧ w.cell? ⟨g, o + i * 3 + 1, none⟩ = some (.int .i64 (X i).2.1) ∧ w.cell? ⟨g, o + i * 3 + 2, none⟩ = some (.string (X i).2.2)) :
    Calls Tryz.prog 4 #[.slice a len cap] w fun e w' => e = .returned (.bool true) ∧ Below w.heap.size w w' := by
  have HE := Lib.hid E
  have HV := Lib.hid hV
  clear E hV
  go_enter Tryz.func4, Tryz.ntmps4
  go_wp2_with fail
  refine (shown_any _ HE.out).mono ?_
  rintro e w1 ⟨rfl, hb⟩
  have HB1 := Lib.hid hb
  clear hb
  go_wp2_with fail
  refine (Few20 a len cap X w1 fun i hi => by
    obtain ⟨g, o, h0, h1, h2, h3, h4⟩ := HV.out i hi
    exact ⟨g, o, h0, Nat.lt_of_lt_of_le h1 HB1.out.size, (HB1.out.cell (p := ⟨g, _, none⟩) h1).trans h2, (HB1.out.cell (p := ⟨g, _, none⟩) h1).trans h3, (HB1.out.cell (p := ⟨g, _, none⟩) h1).trans h4⟩).mono ?_
  rintro e w2 ⟨p, n, c, d, rfl, hn, _, _, hsl, hsh, hb⟩
  have HN := Lib.hid hn
  have HS2 := Lib.hid hsl
  have HB2 := Lib.hid (HB1.out.trans (hb.mono HB1.out.size))
  clear hn hsl hsh hb
  go_wp2_with fail
  refine (Sort22 d p c n HN.out _ HS2.out).mono ?_
  rintro e w3 ⟨q3, c3, rfl, hs3, hb⟩
  have HQ3 := Lib.hid hs3
  have HS3 := Lib.hid (HS2.out.below hb)
  have HB3 := Lib.hid (HB2.out.trans (hb.mono HB2.out.size))
  clear hs3 hb
  go_wp2_with fail
  refine (Sort23 d p c n HN.out _ HS3.out).mono ?_
  rintro e w4 ⟨q4, c4, rfl, hs4, hb⟩
  have HQ4 := Lib.hid hs4
  have HQ34 := Lib.hid (HQ3.out.below hb)
  have HS4 := Lib.hid (HS3.out.below hb)
  have HB4 := Lib.hid (HB3.out.trans (hb.mono HB3.out.size))
  clear hs4 hb
  go_wp2_with fail
  refine (Same21 _ q3 q4 c3 c4 n n (by rw [sort_size]; exact HN.out) (by rw [sort_size]; exact HN.out) _ HQ34.out HQ4.out).mono ?_
  rintro e w5 ⟨rfl, hb⟩
  have HS5 := Lib.hid (HS4.out.below hb)
  have HB5 := Lib.hid (HB4.out.trans (hb.mono HB4.out.size))
  clear hb
  go_wp2_with fail
  refine (Twice24 d p c n HN.out _ HS5.out).mono ?_
  rintro e w6 ⟨rfl, hb⟩
  have HS6 := Lib.hid (HS5.out.below hb)
  have HB6 := Lib.hid (HB5.out.trans (hb.mono HB5.out.size))
  clear hb
  go_wp2_with fail
  refine (Twice25 d p c n HN.out _ HS6.out).mono ?_
  rintro e w7 ⟨rfl, hb⟩
  have HB7 := Lib.hid (HB6.out.trans (hb.mono HB6.out.size))
  clear hb
  go_wp2_with fail
  go_ret
  exact ⟨rfl, HB7.out⟩
end Go.Proofs.YtkliecngkcjieaaGreatDoor
