/- Two blocks of the known tag's sums, and what they make of the states. Conditions: none; nothing of the program is run here. Two blocks of the known tag's sums, and what they make of the states. Conditions: none; nothing of the program is run here. A text's tag under a key, and the known one. Conditions: none; nothing of the program is run here. -/
import Derived.Test.YthojdcmkajmdjaaDoorWd
import Derived.Test.YthojdcmkajmdjaaDoorHt
import Derived.Test.YthojdcmkajmdjaaDoorSm
namespace Go.Proofs.YthojdcmkajmdjaaDoor
namespace Rd
namespace K1
def blk : ByteArray := ⟨#[124, 83, 80, 83, 54, 54, 54, 54, 54, 54, 54, 54, 54, 54, 54, 54, 54, 54, 54, 54, 54, 54, 54, 54, 54, 54, 54, 54, 54, 54, 54, 54, 54, 54, 54, 54, 54, 54, 54, 54, 54, 54, 54, 54, 54, 54, 54, 54, 54, 54, 54, 54, 54, 54, 54, 54, 54, 54, 54, 54, 54, 54, 54, 54]⟩
def ini : St := ⟨1779033703#32, 3144134277#32, 1013904242#32, 2773480762#32, 1359893119#32, 2600822924#32, 528734635#32, 1541459225#32⟩
theorem wd0 : Wd (mw blk) 0 = 2085834835#32 := (Wd_low _ _ (by decide)).trans (by decide +kernel)
theorem wd1 : Wd (mw blk) 1 = 909522486#32 := (Wd_low _ _ (by decide)).trans (by decide +kernel)
theorem wd2 : Wd (mw blk) 2 = 909522486#32 := (Wd_low _ _ (by decide)).trans (by decide +kernel)
theorem wd3 : Wd (mw blk) 3 = 909522486#32 := (Wd_low _ _ (by decide)).trans (by decide +kernel)
theorem wd4 : Wd (mw blk) 4 = 909522486#32 := (Wd_low _ _ (by decide)).trans (by decide +kernel)
theorem wd5 : Wd (mw blk) 5 = 909522486#32 := (Wd_low _ _ (by decide)).trans (by decide +kernel)
theorem wd6 : Wd (mw blk) 6 = 909522486#32 := (Wd_low _ _ (by decide)).trans (by decide +kernel)
theorem wd7 : Wd (mw blk) 7 = 909522486#32 := (Wd_low _ _ (by decide)).trans (by decide +kernel)
theorem wd8 : Wd (mw blk) 8 = 909522486#32 := (Wd_low _ _ (by decide)).trans (by decide +kernel)
theorem wd9 : Wd (mw blk) 9 = 909522486#32 := (Wd_low _ _ (by decide)).trans (by decide +kernel)
theorem wd10 : Wd (mw blk) 10 = 909522486#32 := (Wd_low _ _ (by decide)).trans (by decide +kernel)
theorem wd11 : Wd (mw blk) 11 = 909522486#32 := (Wd_low _ _ (by decide)).trans (by decide +kernel)
theorem wd12 : Wd (mw blk) 12 = 909522486#32 := (Wd_low _ _ (by decide)).trans (by decide +kernel)
theorem wd13 : Wd (mw blk) 13 = 909522486#32 := (Wd_low _ _ (by decide)).trans (by decide +kernel)
theorem wd14 : Wd (mw blk) 14 = 909522486#32 := (Wd_low _ _ (by decide)).trans (by decide +kernel)
theorem wd15 : Wd (mw blk) 15 = 909522486#32 := (Wd_low _ _ (by decide)).trans (by decide +kernel)
theorem wd16 : Wd (mw blk) 16 = 2004942336#32 := by
  have h := Wd_rec (mw blk) 16 (by decide)
  simp only [Nat.reduceSub, wd0, wd1, wd9, wd14] at h
  exact h.trans (by decide +kernel)
theorem wd17 : Wd (mw blk) 17 = 828629987#32 := by
  have h := Wd_rec (mw blk) 17 (by decide)
  simp only [Nat.reduceSub, wd1, wd2, wd10, wd15] at h
  exact h.trans (by decide +kernel)
theorem wd18 : Wd (mw blk) 18 = 3027331234#32 := by
  have h := Wd_rec (mw blk) 18 (by decide)
  simp only [Nat.reduceSub, wd2, wd3, wd11, wd16] at h
  exact h.trans (by decide +kernel)
theorem wd19 : Wd (mw blk) 19 = 3776264696#32 := by
  have h := Wd_rec (mw blk) 19 (by decide)
  simp only [Nat.reduceSub, wd3, wd4, wd12, wd17] at h
  exact h.trans (by decide +kernel)
theorem wd20 : Wd (mw blk) 20 = 3975914623#32 := by
  have h := Wd_rec (mw blk) 20 (by decide)
  simp only [Nat.reduceSub, wd4, wd5, wd13, wd18] at h
  exact h.trans (by decide +kernel)
theorem wd21 : Wd (mw blk) 21 = 2408496505#32 := by
  have h := Wd_rec (mw blk) 21 (by decide)
  simp only [Nat.reduceSub, wd5, wd6, wd14, wd19] at h
  exact h.trans (by decide +kernel)
theorem wd22 : Wd (mw blk) 22 = 4196321438#32 := by
  have h := Wd_rec (mw blk) 22 (by decide)
  simp only [Nat.reduceSub, wd6, wd7, wd15, wd20] at h
  exact h.trans (by decide +kernel)
theorem wd23 : Wd (mw blk) 23 = 504262902#32 := by
  have h := Wd_rec (mw blk) 23 (by decide)
  simp only [Nat.reduceSub, wd7, wd8, wd16, wd21] at h
  exact h.trans (by decide +kernel)
theorem wd24 : Wd (mw blk) 24 = 203646782#32 := by
  have h := Wd_rec (mw blk) 24 (by decide)
  simp only [Nat.reduceSub, wd8, wd9, wd17, wd22] at h
  exact h.trans (by decide +kernel)
theorem wd25 : Wd (mw blk) 25 = 3358659929#32 := by
  have h := Wd_rec (mw blk) 25 (by decide)
  simp only [Nat.reduceSub, wd9, wd10, wd18, wd23] at h
  exact h.trans (by decide +kernel)
theorem wd26 : Wd (mw blk) 26 = 3723388577#32 := by
  have h := Wd_rec (mw blk) 26 (by decide)
  simp only [Nat.reduceSub, wd10, wd11, wd19, wd24] at h
  exact h.trans (by decide +kernel)
theorem wd27 : Wd (mw blk) 27 = 2995704631#32 := by
  have h := Wd_rec (mw blk) 27 (by decide)
  simp only [Nat.reduceSub, wd11, wd12, wd20, wd25] at h
  exact h.trans (by decide +kernel)
theorem wd28 : Wd (mw blk) 28 = 2896153001#32 := by
  have h := Wd_rec (mw blk) 28 (by decide)
  simp only [Nat.reduceSub, wd12, wd13, wd21, wd26] at h
  exact h.trans (by decide +kernel)
theorem wd29 : Wd (mw blk) 29 = 3410866845#32 := by
  have h := Wd_rec (mw blk) 29 (by decide)
  simp only [Nat.reduceSub, wd13, wd14, wd22, wd27] at h
  exact h.trans (by decide +kernel)
theorem wd30 : Wd (mw blk) 30 = 1496748673#32 := by
  have h := Wd_rec (mw blk) 30 (by decide)
  simp only [Nat.reduceSub, wd14, wd15, wd23, wd28] at h
  exact h.trans (by decide +kernel)
theorem wd31 : Wd (mw blk) 31 = 3811062003#32 := by
  have h := Wd_rec (mw blk) 31 (by decide)
  simp only [Nat.reduceSub, wd15, wd16, wd24, wd29] at h
  exact h.trans (by decide +kernel)
theorem wd32 : Wd (mw blk) 32 = 326063445#32 := by
  have h := Wd_rec (mw blk) 32 (by decide)
  simp only [Nat.reduceSub, wd16, wd17, wd25, wd30] at h
  exact h.trans (by decide +kernel)
theorem wd33 : Wd (mw blk) 33 = 931132762#32 := by
  have h := Wd_rec (mw blk) 33 (by decide)
  simp only [Nat.reduceSub, wd17, wd18, wd26, wd31] at h
  exact h.trans (by decide +kernel)
theorem wd34 : Wd (mw blk) 34 = 1252253937#32 := by
  have h := Wd_rec (mw blk) 34 (by decide)
  simp only [Nat.reduceSub, wd18, wd19, wd27, wd32] at h
  exact h.trans (by decide +kernel)
theorem wd35 : Wd (mw blk) 35 = 2635726663#32 := by
  have h := Wd_rec (mw blk) 35 (by decide)
  simp only [Nat.reduceSub, wd19, wd20, wd28, wd33] at h
  exact h.trans (by decide +kernel)
theorem wd36 : Wd (mw blk) 36 = 2456692047#32 := by
  have h := Wd_rec (mw blk) 36 (by decide)
  simp only [Nat.reduceSub, wd20, wd21, wd29, wd34] at h
  exact h.trans (by decide +kernel)
theorem wd37 : Wd (mw blk) 37 = 969024847#32 := by
  have h := Wd_rec (mw blk) 37 (by decide)
  simp only [Nat.reduceSub, wd21, wd22, wd30, wd35] at h
  exact h.trans (by decide +kernel)
theorem wd38 : Wd (mw blk) 38 = 657584128#32 := by
  have h := Wd_rec (mw blk) 38 (by decide)
  simp only [Nat.reduceSub, wd22, wd23, wd31, wd36] at h
  exact h.trans (by decide +kernel)
theorem wd39 : Wd (mw blk) 39 = 735148732#32 := by
  have h := Wd_rec (mw blk) 39 (by decide)
  simp only [Nat.reduceSub, wd23, wd24, wd32, wd37] at h
  exact h.trans (by decide +kernel)
theorem wd40 : Wd (mw blk) 40 = 4184697383#32 := by
  have h := Wd_rec (mw blk) 40 (by decide)
  simp only [Nat.reduceSub, wd24, wd25, wd33, wd38] at h
  exact h.trans (by decide +kernel)
theorem wd41 : Wd (mw blk) 41 = 1720107640#32 := by
  have h := Wd_rec (mw blk) 41 (by decide)
  simp only [Nat.reduceSub, wd25, wd26, wd34, wd39] at h
  exact h.trans (by decide +kernel)
theorem wd42 : Wd (mw blk) 42 = 1634396684#32 := by
  have h := Wd_rec (mw blk) 42 (by decide)
  simp only [Nat.reduceSub, wd26, wd27, wd35, wd40] at h
  exact h.trans (by decide +kernel)
theorem wd43 : Wd (mw blk) 43 = 3003663402#32 := by
  have h := Wd_rec (mw blk) 43 (by decide)
  simp only [Nat.reduceSub, wd27, wd28, wd36, wd41] at h
  exact h.trans (by decide +kernel)
theorem wd44 : Wd (mw blk) 44 = 1561998591#32 := by
  have h := Wd_rec (mw blk) 44 (by decide)
  simp only [Nat.reduceSub, wd28, wd29, wd37, wd42] at h
  exact h.trans (by decide +kernel)
theorem wd45 : Wd (mw blk) 45 = 3396426185#32 := by
  have h := Wd_rec (mw blk) 45 (by decide)
  simp only [Nat.reduceSub, wd29, wd30, wd38, wd43] at h
  exact h.trans (by decide +kernel)
theorem wd46 : Wd (mw blk) 46 = 3651059605#32 := by
  have h := Wd_rec (mw blk) 46 (by decide)
  simp only [Nat.reduceSub, wd30, wd31, wd39, wd44] at h
  exact h.trans (by decide +kernel)
theorem wd47 : Wd (mw blk) 47 = 3785575445#32 := by
  have h := Wd_rec (mw blk) 47 (by decide)
  simp only [Nat.reduceSub, wd31, wd32, wd40, wd45] at h
  exact h.trans (by decide +kernel)
theorem wd48 : Wd (mw blk) 48 = 1373361342#32 := by
  have h := Wd_rec (mw blk) 48 (by decide)
  simp only [Nat.reduceSub, wd32, wd33, wd41, wd46] at h
  exact h.trans (by decide +kernel)
theorem wd49 : Wd (mw blk) 49 = 2090364179#32 := by
  have h := Wd_rec (mw blk) 49 (by decide)
  simp only [Nat.reduceSub, wd33, wd34, wd42, wd47] at h
  exact h.trans (by decide +kernel)
theorem wd50 : Wd (mw blk) 50 = 1909564558#32 := by
  have h := Wd_rec (mw blk) 50 (by decide)
  simp only [Nat.reduceSub, wd34, wd35, wd43, wd48] at h
  exact h.trans (by decide +kernel)
theorem wd51 : Wd (mw blk) 51 = 967059586#32 := by
  have h := Wd_rec (mw blk) 51 (by decide)
  simp only [Nat.reduceSub, wd35, wd36, wd44, wd49] at h
  exact h.trans (by decide +kernel)
theorem wd52 : Wd (mw blk) 52 = 1405227110#32 := by
  have h := Wd_rec (mw blk) 52 (by decide)
  simp only [Nat.reduceSub, wd36, wd37, wd45, wd50] at h
  exact h.trans (by decide +kernel)
theorem wd53 : Wd (mw blk) 53 = 493382652#32 := by
  have h := Wd_rec (mw blk) 53 (by decide)
  simp only [Nat.reduceSub, wd37, wd38, wd46, wd51] at h
  exact h.trans (by decide +kernel)
theorem wd54 : Wd (mw blk) 54 = 1988286088#32 := by
  have h := Wd_rec (mw blk) 54 (by decide)
  simp only [Nat.reduceSub, wd38, wd39, wd47, wd52] at h
  exact h.trans (by decide +kernel)
theorem wd55 : Wd (mw blk) 55 = 3230314568#32 := by
  have h := Wd_rec (mw blk) 55 (by decide)
  simp only [Nat.reduceSub, wd39, wd40, wd48, wd53] at h
  exact h.trans (by decide +kernel)
theorem wd56 : Wd (mw blk) 56 = 4094834888#32 := by
  have h := Wd_rec (mw blk) 56 (by decide)
  simp only [Nat.reduceSub, wd40, wd41, wd49, wd54] at h
  exact h.trans (by decide +kernel)
theorem wd57 : Wd (mw blk) 57 = 2497860301#32 := by
  have h := Wd_rec (mw blk) 57 (by decide)
  simp only [Nat.reduceSub, wd41, wd42, wd50, wd55] at h
  exact h.trans (by decide +kernel)
theorem wd58 : Wd (mw blk) 58 = 1214064482#32 := by
  have h := Wd_rec (mw blk) 58 (by decide)
  simp only [Nat.reduceSub, wd42, wd43, wd51, wd56] at h
  exact h.trans (by decide +kernel)
theorem wd59 : Wd (mw blk) 59 = 3792386745#32 := by
  have h := Wd_rec (mw blk) 59 (by decide)
  simp only [Nat.reduceSub, wd43, wd44, wd52, wd57] at h
  exact h.trans (by decide +kernel)
theorem wd60 : Wd (mw blk) 60 = 2390414973#32 := by
  have h := Wd_rec (mw blk) 60 (by decide)
  simp only [Nat.reduceSub, wd44, wd45, wd53, wd58] at h
  exact h.trans (by decide +kernel)
theorem wd61 : Wd (mw blk) 61 = 3666681029#32 := by
  have h := Wd_rec (mw blk) 61 (by decide)
  simp only [Nat.reduceSub, wd45, wd46, wd54, wd59] at h
  exact h.trans (by decide +kernel)
theorem wd62 : Wd (mw blk) 62 = 2968432534#32 := by
  have h := Wd_rec (mw blk) 62 (by decide)
  simp only [Nat.reduceSub, wd46, wd47, wd55, wd60] at h
  exact h.trans (by decide +kernel)
theorem wd63 : Wd (mw blk) 63 = 2268713845#32 := by
  have h := Wd_rec (mw blk) 63 (by decide)
  simp only [Nat.reduceSub, wd47, wd48, wd56, wd61] at h
  exact h.trans (by decide +kernel)
theorem go0 : St.go (Wd (mw blk)) ini 0 = ⟨1779033703#32, 3144134277#32, 1013904242#32, 2773480762#32, 1359893119#32, 2600822924#32, 528734635#32, 1541459225#32⟩ := rfl
theorem go1 : St.go (Wd (mw blk)) ini 1 = ⟨2019285152#32, 1779033703#32, 3144134277#32, 1013904242#32, 354104053#32, 1359893119#32, 2600822924#32, 528734635#32⟩ := by
  rw [St.go, go0, wd0]
  exact St.eq_of (by decide +kernel)
theorem go2 : St.go (Wd (mw blk)) ini 2 = ⟨2553481170#32, 2019285152#32, 1779033703#32, 3144134277#32, 2782812040#32, 354104053#32, 1359893119#32, 2600822924#32⟩ := by
  rw [St.go, go1, wd1]
  exact St.eq_of (by decide +kernel)
theorem go3 : St.go (Wd (mw blk)) ini 3 = ⟨3848389948#32, 2553481170#32, 2019285152#32, 1779033703#32, 3559285459#32, 2782812040#32, 354104053#32, 1359893119#32⟩ := by
  rw [St.go, go2, wd2]
  exact St.eq_of (by decide +kernel)
theorem go4 : St.go (Wd (mw blk)) ini 4 = ⟨2354354991#32, 3848389948#32, 2553481170#32, 2019285152#32, 1715409426#32, 3559285459#32, 2782812040#32, 354104053#32⟩ := by
  rw [St.go, go3, wd3]
  exact St.eq_of (by decide +kernel)
theorem go5 : St.go (Wd (mw blk)) ini 5 = ⟨1399007061#32, 2354354991#32, 3848389948#32, 2553481170#32, 3611786841#32, 1715409426#32, 3559285459#32, 2782812040#32⟩ := by
  rw [St.go, go4, wd4]
  exact St.eq_of (by decide +kernel)
theorem go6 : St.go (Wd (mw blk)) ini 6 = ⟨878058236#32, 1399007061#32, 2354354991#32, 3848389948#32, 607687696#32, 3611786841#32, 1715409426#32, 3559285459#32⟩ := by
  rw [St.go, go5, wd5]
  exact St.eq_of (by decide +kernel)
theorem go7 : St.go (Wd (mw blk)) ini 7 = ⟨1484230506#32, 878058236#32, 1399007061#32, 2354354991#32, 2799920203#32, 607687696#32, 3611786841#32, 1715409426#32⟩ := by
  rw [St.go, go6, wd6]
  exact St.eq_of (by decide +kernel)
theorem go8 : St.go (Wd (mw blk)) ini 8 = ⟨385667550#32, 1484230506#32, 878058236#32, 1399007061#32, 526898314#32, 2799920203#32, 607687696#32, 3611786841#32⟩ := by
  rw [St.go, go7, wd7]
  exact St.eq_of (by decide +kernel)
theorem go9 : St.go (Wd (mw blk)) ini 9 = ⟨592736688#32, 385667550#32, 1484230506#32, 878058236#32, 1782055229#32, 526898314#32, 2799920203#32, 607687696#32⟩ := by
  rw [St.go, go8, wd8]
  exact St.eq_of (by decide +kernel)
theorem go10 : St.go (Wd (mw blk)) ini 10 = ⟨2967624574#32, 592736688#32, 385667550#32, 1484230506#32, 4264615486#32, 1782055229#32, 526898314#32, 2799920203#32⟩ := by
  rw [St.go, go9, wd9]
  exact St.eq_of (by decide +kernel)
theorem go11 : St.go (Wd (mw blk)) ini 11 = ⟨3265230883#32, 2967624574#32, 592736688#32, 385667550#32, 3917597313#32, 4264615486#32, 1782055229#32, 526898314#32⟩ := by
  rw [St.go, go10, wd10]
  exact St.eq_of (by decide +kernel)
theorem go12 : St.go (Wd (mw blk)) ini 12 = ⟨462523089#32, 3265230883#32, 2967624574#32, 592736688#32, 1130274180#32, 3917597313#32, 4264615486#32, 1782055229#32⟩ := by
  rw [St.go, go11, wd11]
  exact St.eq_of (by decide +kernel)
theorem go13 : St.go (Wd (mw blk)) ini 13 = ⟨133466094#32, 462523089#32, 3265230883#32, 2967624574#32, 1114481877#32, 1130274180#32, 3917597313#32, 4264615486#32⟩ := by
  rw [St.go, go12, wd12]
  exact St.eq_of (by decide +kernel)
theorem go14 : St.go (Wd (mw blk)) ini 14 = ⟨179197855#32, 133466094#32, 462523089#32, 3265230883#32, 1265140218#32, 1114481877#32, 1130274180#32, 3917597313#32⟩ := by
  rw [St.go, go13, wd13]
  exact St.eq_of (by decide +kernel)
theorem go15 : St.go (Wd (mw blk)) ini 15 = ⟨855186178#32, 179197855#32, 133466094#32, 462523089#32, 584470151#32, 1265140218#32, 1114481877#32, 1130274180#32⟩ := by
  rw [St.go, go14, wd14]
  exact St.eq_of (by decide +kernel)
theorem go16 : St.go (Wd (mw blk)) ini 16 = ⟨3634534323#32, 855186178#32, 179197855#32, 133466094#32, 1081356595#32, 584470151#32, 1265140218#32, 1114481877#32⟩ := by
  rw [St.go, go15, wd15]
  exact St.eq_of (by decide +kernel)
theorem go17 : St.go (Wd (mw blk)) ini 17 = ⟨1474993264#32, 3634534323#32, 855186178#32, 179197855#32, 2202819889#32, 1081356595#32, 584470151#32, 1265140218#32⟩ := by
  rw [St.go, go16, wd16]
  exact St.eq_of (by decide +kernel)
theorem go18 : St.go (Wd (mw blk)) ini 18 = ⟨40434081#32, 1474993264#32, 3634534323#32, 855186178#32, 1579342071#32, 2202819889#32, 1081356595#32, 584470151#32⟩ := by
  rw [St.go, go17, wd17]
  exact St.eq_of (by decide +kernel)
theorem go19 : St.go (Wd (mw blk)) ini 19 = ⟨1035749774#32, 40434081#32, 1474993264#32, 3634534323#32, 4015398329#32, 1579342071#32, 2202819889#32, 1081356595#32⟩ := by
  rw [St.go, go18, wd18]
  exact St.eq_of (by decide +kernel)
theorem go20 : St.go (Wd (mw blk)) ini 20 = ⟨3645928705#32, 1035749774#32, 40434081#32, 1474993264#32, 1741777821#32, 4015398329#32, 1579342071#32, 2202819889#32⟩ := by
  rw [St.go, go19, wd19]
  exact St.eq_of (by decide +kernel)
theorem go21 : St.go (Wd (mw blk)) ini 21 = ⟨3308356465#32, 3645928705#32, 1035749774#32, 40434081#32, 1679087034#32, 1741777821#32, 4015398329#32, 1579342071#32⟩ := by
  rw [St.go, go20, wd20]
  exact St.eq_of (by decide +kernel)
theorem go22 : St.go (Wd (mw blk)) ini 22 = ⟨103694582#32, 3308356465#32, 3645928705#32, 1035749774#32, 2123852626#32, 1679087034#32, 1741777821#32, 4015398329#32⟩ := by
  rw [St.go, go21, wd21]
  exact St.eq_of (by decide +kernel)
theorem go23 : St.go (Wd (mw blk)) ini 23 = ⟨400732953#32, 103694582#32, 3308356465#32, 3645928705#32, 1362510303#32, 2123852626#32, 1679087034#32, 1741777821#32⟩ := by
  rw [St.go, go22, wd22]
  exact St.eq_of (by decide +kernel)
theorem go24 : St.go (Wd (mw blk)) ini 24 = ⟨2912765507#32, 400732953#32, 103694582#32, 3308356465#32, 667861063#32, 1362510303#32, 2123852626#32, 1679087034#32⟩ := by
  rw [St.go, go23, wd23]
  exact St.eq_of (by decide +kernel)
theorem go25 : St.go (Wd (mw blk)) ini 25 = ⟨146493706#32, 2912765507#32, 400732953#32, 103694582#32, 433806940#32, 667861063#32, 1362510303#32, 2123852626#32⟩ := by
  rw [St.go, go24, wd24]
  exact St.eq_of (by decide +kernel)
theorem go26 : St.go (Wd (mw blk)) ini 26 = ⟨2083130818#32, 146493706#32, 2912765507#32, 400732953#32, 2372026867#32, 433806940#32, 667861063#32, 1362510303#32⟩ := by
  rw [St.go, go25, wd25]
  exact St.eq_of (by decide +kernel)
theorem go27 : St.go (Wd (mw blk)) ini 27 = ⟨3527745079#32, 2083130818#32, 146493706#32, 2912765507#32, 1681793086#32, 2372026867#32, 433806940#32, 667861063#32⟩ := by
  rw [St.go, go26, wd26]
  exact St.eq_of (by decide +kernel)
theorem go28 : St.go (Wd (mw blk)) ini 28 = ⟨40434203#32, 3527745079#32, 2083130818#32, 146493706#32, 1183062128#32, 1681793086#32, 2372026867#32, 433806940#32⟩ := by
  rw [St.go, go27, wd27]
  exact St.eq_of (by decide +kernel)
theorem go29 : St.go (Wd (mw blk)) ini 29 = ⟨3992112711#32, 40434203#32, 3527745079#32, 2083130818#32, 4036738934#32, 1183062128#32, 1681793086#32, 2372026867#32⟩ := by
  rw [St.go, go28, wd28]
  exact St.eq_of (by decide +kernel)
theorem go30 : St.go (Wd (mw blk)) ini 30 = ⟨4036691720#32, 3992112711#32, 40434203#32, 3527745079#32, 1743352579#32, 4036738934#32, 1183062128#32, 1681793086#32⟩ := by
  rw [St.go, go29, wd29]
  exact St.eq_of (by decide +kernel)
theorem go31 : St.go (Wd (mw blk)) ini 31 = ⟨126836662#32, 4036691720#32, 3992112711#32, 40434203#32, 2421967114#32, 1743352579#32, 4036738934#32, 1183062128#32⟩ := by
  rw [St.go, go30, wd30]
  exact St.eq_of (by decide +kernel)
theorem go32 : St.go (Wd (mw blk)) ini 32 = ⟨3936480436#32, 126836662#32, 4036691720#32, 3992112711#32, 3326239808#32, 2421967114#32, 1743352579#32, 4036738934#32⟩ := by
  rw [St.go, go31, wd31]
  exact St.eq_of (by decide +kernel)
theorem go33 : St.go (Wd (mw blk)) ini 33 = ⟨858300749#32, 3936480436#32, 126836662#32, 4036691720#32, 1708270168#32, 3326239808#32, 2421967114#32, 1743352579#32⟩ := by
  rw [St.go, go32, wd32]
  exact St.eq_of (by decide +kernel)
theorem go34 : St.go (Wd (mw blk)) ini 34 = ⟨1831748964#32, 858300749#32, 3936480436#32, 126836662#32, 1442371806#32, 1708270168#32, 3326239808#32, 2421967114#32⟩ := by
  rw [St.go, go33, wd33]
  exact St.eq_of (by decide +kernel)
theorem go35 : St.go (Wd (mw blk)) ini 35 = ⟨2207661732#32, 1831748964#32, 858300749#32, 3936480436#32, 2524925783#32, 1442371806#32, 1708270168#32, 3326239808#32⟩ := by
  rw [St.go, go34, wd34]
  exact St.eq_of (by decide +kernel)
theorem go36 : St.go (Wd (mw blk)) ini 36 = ⟨1745000593#32, 2207661732#32, 1831748964#32, 858300749#32, 2721799883#32, 2524925783#32, 1442371806#32, 1708270168#32⟩ := by
  rw [St.go, go35, wd35]
  exact St.eq_of (by decide +kernel)
theorem go37 : St.go (Wd (mw blk)) ini 37 = ⟨495589703#32, 1745000593#32, 2207661732#32, 1831748964#32, 1388509792#32, 2721799883#32, 2524925783#32, 1442371806#32⟩ := by
  rw [St.go, go36, wd36]
  exact St.eq_of (by decide +kernel)
theorem go38 : St.go (Wd (mw blk)) ini 38 = ⟨1734499034#32, 495589703#32, 1745000593#32, 2207661732#32, 2781811010#32, 1388509792#32, 2721799883#32, 2524925783#32⟩ := by
  rw [St.go, go37, wd37]
  exact St.eq_of (by decide +kernel)
theorem go39 : St.go (Wd (mw blk)) ini 39 = ⟨991193423#32, 1734499034#32, 495589703#32, 1745000593#32, 2336738023#32, 2781811010#32, 1388509792#32, 2721799883#32⟩ := by
  rw [St.go, go38, wd38]
  exact St.eq_of (by decide +kernel)
theorem go40 : St.go (Wd (mw blk)) ini 40 = ⟨2811990480#32, 991193423#32, 1734499034#32, 495589703#32, 4219589366#32, 2336738023#32, 2781811010#32, 1388509792#32⟩ := by
  rw [St.go, go39, wd39]
  exact St.eq_of (by decide +kernel)
theorem go41 : St.go (Wd (mw blk)) ini 41 = ⟨3025080618#32, 2811990480#32, 991193423#32, 1734499034#32, 3785504353#32, 4219589366#32, 2336738023#32, 2781811010#32⟩ := by
  rw [St.go, go40, wd40]
  exact St.eq_of (by decide +kernel)
theorem go42 : St.go (Wd (mw blk)) ini 42 = ⟨167346055#32, 3025080618#32, 2811990480#32, 991193423#32, 2721709108#32, 3785504353#32, 4219589366#32, 2336738023#32⟩ := by
  rw [St.go, go41, wd41]
  exact St.eq_of (by decide +kernel)
theorem go43 : St.go (Wd (mw blk)) ini 43 = ⟨1930710898#32, 167346055#32, 3025080618#32, 2811990480#32, 748002098#32, 2721709108#32, 3785504353#32, 4219589366#32⟩ := by
  rw [St.go, go42, wd42]
  exact St.eq_of (by decide +kernel)
theorem go44 : St.go (Wd (mw blk)) ini 44 = ⟨590161105#32, 1930710898#32, 167346055#32, 3025080618#32, 3808433357#32, 748002098#32, 2721709108#32, 3785504353#32⟩ := by
  rw [St.go, go43, wd43]
  exact St.eq_of (by decide +kernel)
theorem go45 : St.go (Wd (mw blk)) ini 45 = ⟨1557255917#32, 590161105#32, 1930710898#32, 167346055#32, 319972211#32, 3808433357#32, 748002098#32, 2721709108#32⟩ := by
  rw [St.go, go44, wd44]
  exact St.eq_of (by decide +kernel)
theorem go46 : St.go (Wd (mw blk)) ini 46 = ⟨3087266785#32, 1557255917#32, 590161105#32, 1930710898#32, 2816673329#32, 319972211#32, 3808433357#32, 748002098#32⟩ := by
  rw [St.go, go45, wd45]
  exact St.eq_of (by decide +kernel)
theorem go47 : St.go (Wd (mw blk)) ini 47 = ⟨1697758428#32, 3087266785#32, 1557255917#32, 590161105#32, 2709609318#32, 2816673329#32, 319972211#32, 3808433357#32⟩ := by
  rw [St.go, go46, wd46]
  exact St.eq_of (by decide +kernel)
theorem go48 : St.go (Wd (mw blk)) ini 48 = ⟨1963906996#32, 1697758428#32, 3087266785#32, 1557255917#32, 3805138538#32, 2709609318#32, 2816673329#32, 319972211#32⟩ := by
  rw [St.go, go47, wd47]
  exact St.eq_of (by decide +kernel)
theorem go49 : St.go (Wd (mw blk)) ini 49 = ⟨891905006#32, 1963906996#32, 1697758428#32, 3087266785#32, 2167961240#32, 3805138538#32, 2709609318#32, 2816673329#32⟩ := by
  rw [St.go, go48, wd48]
  exact St.eq_of (by decide +kernel)
theorem go50 : St.go (Wd (mw blk)) ini 50 = ⟨3175742126#32, 891905006#32, 1963906996#32, 1697758428#32, 3362762031#32, 2167961240#32, 3805138538#32, 2709609318#32⟩ := by
  rw [St.go, go49, wd49]
  exact St.eq_of (by decide +kernel)
theorem go51 : St.go (Wd (mw blk)) ini 51 = ⟨2636719084#32, 3175742126#32, 891905006#32, 1963906996#32, 1870905097#32, 3362762031#32, 2167961240#32, 3805138538#32⟩ := by
  rw [St.go, go50, wd50]
  exact St.eq_of (by decide +kernel)
theorem go52 : St.go (Wd (mw blk)) ini 52 = ⟨2020971306#32, 2636719084#32, 3175742126#32, 891905006#32, 2478437162#32, 1870905097#32, 3362762031#32, 2167961240#32⟩ := by
  rw [St.go, go51, wd51]
  exact St.eq_of (by decide +kernel)
theorem go53 : St.go (Wd (mw blk)) ini 53 = ⟨4230945454#32, 2020971306#32, 2636719084#32, 3175742126#32, 2733423719#32, 2478437162#32, 1870905097#32, 3362762031#32⟩ := by
  rw [St.go, go52, wd52]
  exact St.eq_of (by decide +kernel)
theorem go54 : St.go (Wd (mw blk)) ini 54 = ⟨985793319#32, 4230945454#32, 2020971306#32, 2636719084#32, 633884164#32, 2733423719#32, 2478437162#32, 1870905097#32⟩ := by
  rw [St.go, go53, wd53]
  exact St.eq_of (by decide +kernel)
theorem go55 : St.go (Wd (mw blk)) ini 55 = ⟨2159973521#32, 985793319#32, 4230945454#32, 2020971306#32, 3321551645#32, 633884164#32, 2733423719#32, 2478437162#32⟩ := by
  rw [St.go, go54, wd54]
  exact St.eq_of (by decide +kernel)
theorem go56 : St.go (Wd (mw blk)) ini 56 = ⟨3315750425#32, 2159973521#32, 985793319#32, 4230945454#32, 1182265290#32, 3321551645#32, 633884164#32, 2733423719#32⟩ := by
  rw [St.go, go55, wd55]
  exact St.eq_of (by decide +kernel)
theorem go57 : St.go (Wd (mw blk)) ini 57 = ⟨651242781#32, 3315750425#32, 2159973521#32, 985793319#32, 1499419192#32, 1182265290#32, 3321551645#32, 633884164#32⟩ := by
  rw [St.go, go56, wd56]
  exact St.eq_of (by decide +kernel)
theorem go58 : St.go (Wd (mw blk)) ini 58 = ⟨3970578249#32, 651242781#32, 3315750425#32, 2159973521#32, 1020337410#32, 1499419192#32, 1182265290#32, 3321551645#32⟩ := by
  rw [St.go, go57, wd57]
  exact St.eq_of (by decide +kernel)
theorem go59 : St.go (Wd (mw blk)) ini 59 = ⟨4230861550#32, 3970578249#32, 651242781#32, 3315750425#32, 781279541#32, 1020337410#32, 1499419192#32, 1182265290#32⟩ := by
  rw [St.go, go58, wd58]
  exact St.eq_of (by decide +kernel)
theorem go60 : St.go (Wd (mw blk)) ini 60 = ⟨2042147396#32, 4230861550#32, 3970578249#32, 651242781#32, 3011158763#32, 781279541#32, 1020337410#32, 1499419192#32⟩ := by
  rw [St.go, go59, wd59]
  exact St.eq_of (by decide +kernel)
theorem go61 : St.go (Wd (mw blk)) ini 61 = ⟨1631779028#32, 2042147396#32, 4230861550#32, 3970578249#32, 484868851#32, 3011158763#32, 781279541#32, 1020337410#32⟩ := by
  rw [St.go, go60, wd60]
  exact St.eq_of (by decide +kernel)
theorem go62 : St.go (Wd (mw blk)) ini 62 = ⟨497934937#32, 1631779028#32, 2042147396#32, 4230861550#32, 3156099383#32, 484868851#32, 3011158763#32, 781279541#32⟩ := by
  rw [St.go, go61, wd61]
  exact St.eq_of (by decide +kernel)
theorem go63 : St.go (Wd (mw blk)) ini 63 = ⟨282827954#32, 497934937#32, 1631779028#32, 2042147396#32, 2973076413#32, 3156099383#32, 484868851#32, 3011158763#32⟩ := by
  rw [St.go, go62, wd62]
  exact St.eq_of (by decide +kernel)
theorem go64 : St.go (Wd (mw blk)) ini 64 = ⟨4216570259#32, 282827954#32, 497934937#32, 1631779028#32, 1399574868#32, 2973076413#32, 3156099383#32, 484868851#32⟩ := by
  rw [St.go, go63, wd63]
  exact St.eq_of (by decide +kernel)
def fin : St := ⟨1700636666#32, 3426962231#32, 1511839179#32, 110292494#32, 2759467987#32, 1278932041#32, 3684834018#32, 2026328076#32⟩
theorem comp_is : St.comp (Wd (mw blk)) ini = fin := by
  rw [St.comp, go64]
  exact St.eq_of (by decide +kernel)
end K1
namespace K2
def blk : ByteArray := ⟨#[119, 104, 97, 116, 32, 100, 111, 32, 121, 97, 32, 119, 97, 110, 116, 32, 102, 111, 114, 32, 110, 111, 116, 104, 105, 110, 103, 63, 128, 0, 0, 0, 0, 0, 0, 0, 0, 0, 0, 0, 0, 0, 0, 0, 0, 0, 0, 0, 0, 0, 0, 0, 0, 0, 0, 0, 0, 0, 0, 0, 0, 0, 2, 224]⟩
def ini : St := ⟨1700636666#32, 3426962231#32, 1511839179#32, 110292494#32, 2759467987#32, 1278932041#32, 3684834018#32, 2026328076#32⟩
theorem wd0 : Wd (mw blk) 0 = 2003329396#32 := (Wd_low _ _ (by decide)).trans (by decide +kernel)
theorem wd1 : Wd (mw blk) 1 = 543452960#32 := (Wd_low _ _ (by decide)).trans (by decide +kernel)
theorem wd2 : Wd (mw blk) 2 = 2036408439#32 := (Wd_low _ _ (by decide)).trans (by decide +kernel)
theorem wd3 : Wd (mw blk) 3 = 1634628640#32 := (Wd_low _ _ (by decide)).trans (by decide +kernel)
theorem wd4 : Wd (mw blk) 4 = 1718579744#32 := (Wd_low _ _ (by decide)).trans (by decide +kernel)
theorem wd5 : Wd (mw blk) 5 = 1852798056#32 := (Wd_low _ _ (by decide)).trans (by decide +kernel)
theorem wd6 : Wd (mw blk) 6 = 1768843071#32 := (Wd_low _ _ (by decide)).trans (by decide +kernel)
theorem wd7 : Wd (mw blk) 7 = 2147483648#32 := (Wd_low _ _ (by decide)).trans (by decide +kernel)
theorem wd8 : Wd (mw blk) 8 = 0#32 := (Wd_low _ _ (by decide)).trans (by decide +kernel)
theorem wd9 : Wd (mw blk) 9 = 0#32 := (Wd_low _ _ (by decide)).trans (by decide +kernel)
theorem wd10 : Wd (mw blk) 10 = 0#32 := (Wd_low _ _ (by decide)).trans (by decide +kernel)
theorem wd11 : Wd (mw blk) 11 = 0#32 := (Wd_low _ _ (by decide)).trans (by decide +kernel)
theorem wd12 : Wd (mw blk) 12 = 0#32 := (Wd_low _ _ (by decide)).trans (by decide +kernel)
theorem wd13 : Wd (mw blk) 13 = 0#32 := (Wd_low _ _ (by decide)).trans (by decide +kernel)
theorem wd14 : Wd (mw blk) 14 = 0#32 := (Wd_low _ _ (by decide)).trans (by decide +kernel)
theorem wd15 : Wd (mw blk) 15 = 736#32 := (Wd_low _ _ (by decide)).trans (by decide +kernel)
theorem wd16 : Wd (mw blk) 16 = 3605835415#32 := by
  have h := Wd_rec (mw blk) 16 (by decide)
  simp only [Nat.reduceSub, wd0, wd1, wd9, wd14] at h
  exact h.trans (by decide +kernel)
theorem wd17 : Wd (mw blk) 17 = 3411257142#32 := by
  have h := Wd_rec (mw blk) 17 (by decide)
  simp only [Nat.reduceSub, wd1, wd2, wd10, wd15] at h
  exact h.trans (by decide +kernel)
theorem wd18 : Wd (mw blk) 18 = 234149166#32 := by
  have h := Wd_rec (mw blk) 18 (by decide)
  simp only [Nat.reduceSub, wd2, wd3, wd11, wd16] at h
  exact h.trans (by decide +kernel)
theorem wd19 : Wd (mw blk) 19 = 2571568517#32 := by
  have h := Wd_rec (mw blk) 19 (by decide)
  simp only [Nat.reduceSub, wd3, wd4, wd12, wd17] at h
  exact h.trans (by decide +kernel)
theorem wd20 : Wd (mw blk) 20 = 1454135439#32 := by
  have h := Wd_rec (mw blk) 20 (by decide)
  simp only [Nat.reduceSub, wd4, wd5, wd13, wd18] at h
  exact h.trans (by decide +kernel)
theorem wd21 : Wd (mw blk) 21 = 3136580900#32 := by
  have h := Wd_rec (mw blk) 21 (by decide)
  simp only [Nat.reduceSub, wd5, wd6, wd14, wd19] at h
  exact h.trans (by decide +kernel)
theorem wd22 : Wd (mw blk) 22 = 565343412#32 := by
  have h := Wd_rec (mw blk) 22 (by decide)
  simp only [Nat.reduceSub, wd6, wd7, wd15, wd20] at h
  exact h.trans (by decide +kernel)
theorem wd23 : Wd (mw blk) 23 = 302327254#32 := by
  have h := Wd_rec (mw blk) 23 (by decide)
  simp only [Nat.reduceSub, wd7, wd8, wd16, wd21] at h
  exact h.trans (by decide +kernel)
theorem wd24 : Wd (mw blk) 24 = 1075355560#32 := by
  have h := Wd_rec (mw blk) 24 (by decide)
  simp only [Nat.reduceSub, wd8, wd9, wd17, wd22] at h
  exact h.trans (by decide +kernel)
theorem wd25 : Wd (mw blk) 25 = 1145708345#32 := by
  have h := Wd_rec (mw blk) 25 (by decide)
  simp only [Nat.reduceSub, wd9, wd10, wd18, wd23] at h
  exact h.trans (by decide +kernel)
theorem wd26 : Wd (mw blk) 26 = 4118295469#32 := by
  have h := Wd_rec (mw blk) 26 (by decide)
  simp only [Nat.reduceSub, wd10, wd11, wd19, wd24] at h
  exact h.trans (by decide +kernel)
theorem wd27 : Wd (mw blk) 27 = 2736189626#32 := by
  have h := Wd_rec (mw blk) 27 (by decide)
  simp only [Nat.reduceSub, wd11, wd12, wd20, wd25] at h
  exact h.trans (by decide +kernel)
theorem wd28 : Wd (mw blk) 28 = 3667035971#32 := by
  have h := Wd_rec (mw blk) 28 (by decide)
  simp only [Nat.reduceSub, wd12, wd13, wd21, wd26] at h
  exact h.trans (by decide +kernel)
theorem wd29 : Wd (mw blk) 29 = 3356833033#32 := by
  have h := Wd_rec (mw blk) 29 (by decide)
  simp only [Nat.reduceSub, wd13, wd14, wd22, wd27] at h
  exact h.trans (by decide +kernel)
theorem wd30 : Wd (mw blk) 30 = 3862714601#32 := by
  have h := Wd_rec (mw blk) 30 (by decide)
  simp only [Nat.reduceSub, wd14, wd15, wd23, wd28] at h
  exact h.trans (by decide +kernel)
theorem wd31 : Wd (mw blk) 31 = 2600875009#32 := by
  have h := Wd_rec (mw blk) 31 (by decide)
  simp only [Nat.reduceSub, wd15, wd16, wd24, wd29] at h
  exact h.trans (by decide +kernel)
theorem wd32 : Wd (mw blk) 32 = 1605922843#32 := by
  have h := Wd_rec (mw blk) 32 (by decide)
  simp only [Nat.reduceSub, wd16, wd17, wd25, wd30] at h
  exact h.trans (by decide +kernel)
theorem wd33 : Wd (mw blk) 33 = 107023043#32 := by
  have h := Wd_rec (mw blk) 33 (by decide)
  simp only [Nat.reduceSub, wd17, wd18, wd26, wd31] at h
  exact h.trans (by decide +kernel)
theorem wd34 : Wd (mw blk) 34 = 3231709449#32 := by
  have h := Wd_rec (mw blk) 34 (by decide)
  simp only [Nat.reduceSub, wd18, wd19, wd27, wd32] at h
  exact h.trans (by decide +kernel)
theorem wd35 : Wd (mw blk) 35 = 443354769#32 := by
  have h := Wd_rec (mw blk) 35 (by decide)
  simp only [Nat.reduceSub, wd19, wd20, wd28, wd33] at h
  exact h.trans (by decide +kernel)
theorem wd36 : Wd (mw blk) 36 = 1740232957#32 := by
  have h := Wd_rec (mw blk) 36 (by decide)
  simp only [Nat.reduceSub, wd20, wd21, wd29, wd34] at h
  exact h.trans (by decide +kernel)
theorem wd37 : Wd (mw blk) 37 = 3106217304#32 := by
  have h := Wd_rec (mw blk) 37 (by decide)
  simp only [Nat.reduceSub, wd21, wd22, wd30, wd35] at h
  exact h.trans (by decide +kernel)
theorem wd38 : Wd (mw blk) 38 = 2067973250#32 := by
  have h := Wd_rec (mw blk) 38 (by decide)
  simp only [Nat.reduceSub, wd22, wd23, wd31, wd36] at h
  exact h.trans (by decide +kernel)
theorem wd39 : Wd (mw blk) 39 = 508545966#32 := by
  have h := Wd_rec (mw blk) 39 (by decide)
  simp only [Nat.reduceSub, wd23, wd24, wd32, wd37] at h
  exact h.trans (by decide +kernel)
theorem wd40 : Wd (mw blk) 40 = 2132333486#32 := by
  have h := Wd_rec (mw blk) 40 (by decide)
  simp only [Nat.reduceSub, wd24, wd25, wd33, wd38] at h
  exact h.trans (by decide +kernel)
theorem wd41 : Wd (mw blk) 41 = 1799226026#32 := by
  have h := Wd_rec (mw blk) 41 (by decide)
  simp only [Nat.reduceSub, wd25, wd26, wd34, wd39] at h
  exact h.trans (by decide +kernel)
theorem wd42 : Wd (mw blk) 42 = 1621939148#32 := by
  have h := Wd_rec (mw blk) 42 (by decide)
  simp only [Nat.reduceSub, wd26, wd27, wd35, wd40] at h
  exact h.trans (by decide +kernel)
theorem wd43 : Wd (mw blk) 43 = 153289841#32 := by
  have h := Wd_rec (mw blk) 43 (by decide)
  simp only [Nat.reduceSub, wd27, wd28, wd36, wd41] at h
  exact h.trans (by decide +kernel)
theorem wd44 : Wd (mw blk) 44 = 3473947360#32 := by
  have h := Wd_rec (mw blk) 44 (by decide)
  simp only [Nat.reduceSub, wd28, wd29, wd37, wd42] at h
  exact h.trans (by decide +kernel)
theorem wd45 : Wd (mw blk) 45 = 4282282274#32 := by
  have h := Wd_rec (mw blk) 45 (by decide)
  simp only [Nat.reduceSub, wd29, wd30, wd38, wd43] at h
  exact h.trans (by decide +kernel)
theorem wd46 : Wd (mw blk) 46 = 3154283300#32 := by
  have h := Wd_rec (mw blk) 46 (by decide)
  simp only [Nat.reduceSub, wd30, wd31, wd39, wd44] at h
  exact h.trans (by decide +kernel)
theorem wd47 : Wd (mw blk) 47 = 838377632#32 := by
  have h := Wd_rec (mw blk) 47 (by decide)
  simp only [Nat.reduceSub, wd31, wd32, wd40, wd45] at h
  exact h.trans (by decide +kernel)
theorem wd48 : Wd (mw blk) 48 = 2755681981#32 := by
  have h := Wd_rec (mw blk) 48 (by decide)
  simp only [Nat.reduceSub, wd32, wd33, wd41, wd46] at h
  exact h.trans (by decide +kernel)
theorem wd49 : Wd (mw blk) 49 = 2703683694#32 := by
  have h := Wd_rec (mw blk) 49 (by decide)
  simp only [Nat.reduceSub, wd33, wd34, wd42, wd47] at h
  exact h.trans (by decide +kernel)
theorem wd50 : Wd (mw blk) 50 = 1363194253#32 := by
  have h := Wd_rec (mw blk) 50 (by decide)
  simp only [Nat.reduceSub, wd34, wd35, wd43, wd48] at h
  exact h.trans (by decide +kernel)
theorem wd51 : Wd (mw blk) 51 = 261564348#32 := by
  have h := Wd_rec (mw blk) 51 (by decide)
  simp only [Nat.reduceSub, wd35, wd36, wd44, wd49] at h
  exact h.trans (by decide +kernel)
theorem wd52 : Wd (mw blk) 52 = 2531026075#32 := by
  have h := Wd_rec (mw blk) 52 (by decide)
  simp only [Nat.reduceSub, wd36, wd37, wd45, wd50] at h
  exact h.trans (by decide +kernel)
theorem wd53 : Wd (mw blk) 53 = 2802864181#32 := by
  have h := Wd_rec (mw blk) 53 (by decide)
  simp only [Nat.reduceSub, wd37, wd38, wd46, wd51] at h
  exact h.trans (by decide +kernel)
theorem wd54 : Wd (mw blk) 54 = 425022783#32 := by
  have h := Wd_rec (mw blk) 54 (by decide)
  simp only [Nat.reduceSub, wd38, wd39, wd47, wd52] at h
  exact h.trans (by decide +kernel)
theorem wd55 : Wd (mw blk) 55 = 1287422461#32 := by
  have h := Wd_rec (mw blk) 55 (by decide)
  simp only [Nat.reduceSub, wd39, wd40, wd48, wd53] at h
  exact h.trans (by decide +kernel)
theorem wd56 : Wd (mw blk) 56 = 4187563408#32 := by
  have h := Wd_rec (mw blk) 56 (by decide)
  simp only [Nat.reduceSub, wd40, wd41, wd49, wd54] at h
  exact h.trans (by decide +kernel)
theorem wd57 : Wd (mw blk) 57 = 762884373#32 := by
  have h := Wd_rec (mw blk) 57 (by decide)
  simp only [Nat.reduceSub, wd41, wd42, wd50, wd55] at h
  exact h.trans (by decide +kernel)
theorem wd58 : Wd (mw blk) 58 = 1219651084#32 := by
  have h := Wd_rec (mw blk) 58 (by decide)
  simp only [Nat.reduceSub, wd42, wd43, wd51, wd56] at h
  exact h.trans (by decide +kernel)
theorem wd59 : Wd (mw blk) 59 = 3311856440#32 := by
  have h := Wd_rec (mw blk) 59 (by decide)
  simp only [Nat.reduceSub, wd43, wd44, wd52, wd57] at h
  exact h.trans (by decide +kernel)
theorem wd60 : Wd (mw blk) 60 = 3158776308#32 := by
  have h := Wd_rec (mw blk) 60 (by decide)
  simp only [Nat.reduceSub, wd44, wd45, wd53, wd58] at h
  exact h.trans (by decide +kernel)
theorem wd61 : Wd (mw blk) 61 = 3180291448#32 := by
  have h := Wd_rec (mw blk) 61 (by decide)
  simp only [Nat.reduceSub, wd45, wd46, wd54, wd59] at h
  exact h.trans (by decide +kernel)
theorem wd62 : Wd (mw blk) 62 = 3877621433#32 := by
  have h := Wd_rec (mw blk) 62 (by decide)
  simp only [Nat.reduceSub, wd46, wd47, wd55, wd60] at h
  exact h.trans (by decide +kernel)
theorem wd63 : Wd (mw blk) 63 = 37606233#32 := by
  have h := Wd_rec (mw blk) 63 (by decide)
  simp only [Nat.reduceSub, wd47, wd48, wd56, wd61] at h
  exact h.trans (by decide +kernel)
theorem go0 : St.go (Wd (mw blk)) ini 0 = ⟨1700636666#32, 3426962231#32, 1511839179#32, 110292494#32, 2759467987#32, 1278932041#32, 3684834018#32, 2026328076#32⟩ := rfl
theorem go1 : St.go (Wd (mw blk)) ini 1 = ⟨3101825555#32, 1700636666#32, 3426962231#32, 1511839179#32, 2734396832#32, 2759467987#32, 1278932041#32, 3684834018#32⟩ := by
  rw [St.go, go0, wd0]
  exact St.eq_of (by decide +kernel)
theorem go2 : St.go (Wd (mw blk)) ini 2 = ⟨1209904251#32, 3101825555#32, 1700636666#32, 3426962231#32, 4280969116#32, 2734396832#32, 2759467987#32, 1278932041#32⟩ := by
  rw [St.go, go1, wd1]
  exact St.eq_of (by decide +kernel)
theorem go3 : St.go (Wd (mw blk)) ini 3 = ⟨1660030541#32, 1209904251#32, 3101825555#32, 1700636666#32, 4285195318#32, 4280969116#32, 2734396832#32, 2759467987#32⟩ := by
  rw [St.go, go2, wd2]
  exact St.eq_of (by decide +kernel)
theorem go4 : St.go (Wd (mw blk)) ini 4 = ⟨596309698#32, 1660030541#32, 1209904251#32, 3101825555#32, 1023930073#32, 4285195318#32, 4280969116#32, 2734396832#32⟩ := by
  rw [St.go, go3, wd3]
  exact St.eq_of (by decide +kernel)
theorem go5 : St.go (Wd (mw blk)) ini 5 = ⟨4124367547#32, 596309698#32, 1660030541#32, 1209904251#32, 921935130#32, 1023930073#32, 4285195318#32, 4280969116#32⟩ := by
  rw [St.go, go4, wd4]
  exact St.eq_of (by decide +kernel)
theorem go6 : St.go (Wd (mw blk)) ini 6 = ⟨1451085303#32, 4124367547#32, 596309698#32, 1660030541#32, 3204981704#32, 921935130#32, 1023930073#32, 4285195318#32⟩ := by
  rw [St.go, go5, wd5]
  exact St.eq_of (by decide +kernel)
theorem go7 : St.go (Wd (mw blk)) ini 7 = ⟨3590962627#32, 1451085303#32, 4124367547#32, 596309698#32, 1946996563#32, 3204981704#32, 921935130#32, 1023930073#32⟩ := by
  rw [St.go, go6, wd6]
  exact St.eq_of (by decide +kernel)
theorem go8 : St.go (Wd (mw blk)) ini 8 = ⟨1422010988#32, 3590962627#32, 1451085303#32, 4124367547#32, 1686336214#32, 1946996563#32, 3204981704#32, 921935130#32⟩ := by
  rw [St.go, go7, wd7]
  exact St.eq_of (by decide +kernel)
theorem go9 : St.go (Wd (mw blk)) ini 9 = ⟨4130393443#32, 1422010988#32, 3590962627#32, 1451085303#32, 1187011678#32, 1686336214#32, 1946996563#32, 3204981704#32⟩ := by
  rw [St.go, go8, wd8]
  exact St.eq_of (by decide +kernel)
theorem go10 : St.go (Wd (mw blk)) ini 10 = ⟨79495906#32, 4130393443#32, 1422010988#32, 3590962627#32, 798234224#32, 1187011678#32, 1686336214#32, 1946996563#32⟩ := by
  rw [St.go, go9, wd9]
  exact St.eq_of (by decide +kernel)
theorem go11 : St.go (Wd (mw blk)) ini 11 = ⟨1515674711#32, 79495906#32, 4130393443#32, 1422010988#32, 2038178422#32, 798234224#32, 1187011678#32, 1686336214#32⟩ := by
  rw [St.go, go10, wd10]
  exact St.eq_of (by decide +kernel)
theorem go12 : St.go (Wd (mw blk)) ini 12 = ⟨3522418795#32, 1515674711#32, 79495906#32, 4130393443#32, 1730305454#32, 2038178422#32, 798234224#32, 1187011678#32⟩ := by
  rw [St.go, go11, wd11]
  exact St.eq_of (by decide +kernel)
theorem go13 : St.go (Wd (mw blk)) ini 13 = ⟨166503804#32, 3522418795#32, 1515674711#32, 79495906#32, 3068281785#32, 1730305454#32, 2038178422#32, 798234224#32⟩ := by
  rw [St.go, go12, wd12]
  exact St.eq_of (by decide +kernel)
theorem go14 : St.go (Wd (mw blk)) ini 14 = ⟨4119078549#32, 166503804#32, 3522418795#32, 1515674711#32, 87733979#32, 3068281785#32, 1730305454#32, 2038178422#32⟩ := by
  rw [St.go, go13, wd13]
  exact St.eq_of (by decide +kernel)
theorem go15 : St.go (Wd (mw blk)) ini 15 = ⟨3504548792#32, 4119078549#32, 166503804#32, 3522418795#32, 61760#32, 87733979#32, 3068281785#32, 1730305454#32⟩ := by
  rw [St.go, go14, wd14]
  exact St.eq_of (by decide +kernel)
theorem go16 : St.go (Wd (mw blk)) ini 16 = ⟨3209592646#32, 3504548792#32, 4119078549#32, 166503804#32, 3658318145#32, 61760#32, 87733979#32, 3068281785#32⟩ := by
  rw [St.go, go15, wd15]
  exact St.eq_of (by decide +kernel)
theorem go17 : St.go (Wd (mw blk)) ini 17 = ⟨51550774#32, 3209592646#32, 3504548792#32, 4119078549#32, 2870841535#32, 3658318145#32, 61760#32, 87733979#32⟩ := by
  rw [St.go, go16, wd16]
  exact St.eq_of (by decide +kernel)
theorem go18 : St.go (Wd (mw blk)) ini 18 = ⟨1615491656#32, 51550774#32, 3209592646#32, 3504548792#32, 2809132946#32, 2870841535#32, 3658318145#32, 61760#32⟩ := by
  rw [St.go, go17, wd17]
  exact St.eq_of (by decide +kernel)
theorem go19 : St.go (Wd (mw blk)) ini 19 = ⟨4007315968#32, 1615491656#32, 51550774#32, 3209592646#32, 4175084594#32, 2809132946#32, 2870841535#32, 3658318145#32⟩ := by
  rw [St.go, go18, wd18]
  exact St.eq_of (by decide +kernel)
theorem go20 : St.go (Wd (mw blk)) ini 20 = ⟨3196577785#32, 4007315968#32, 1615491656#32, 51550774#32, 451003730#32, 4175084594#32, 2809132946#32, 2870841535#32⟩ := by
  rw [St.go, go19, wd19]
  exact St.eq_of (by decide +kernel)
theorem go21 : St.go (Wd (mw blk)) ini 21 = ⟨3205172210#32, 3196577785#32, 4007315968#32, 1615491656#32, 2204031141#32, 451003730#32, 4175084594#32, 2809132946#32⟩ := by
  rw [St.go, go20, wd20]
  exact St.eq_of (by decide +kernel)
theorem go22 : St.go (Wd (mw blk)) ini 22 = ⟨4033858610#32, 3205172210#32, 3196577785#32, 4007315968#32, 3048571442#32, 2204031141#32, 451003730#32, 4175084594#32⟩ := by
  rw [St.go, go21, wd21]
  exact St.eq_of (by decide +kernel)
theorem go23 : St.go (Wd (mw blk)) ini 23 = ⟨2040571305#32, 4033858610#32, 3205172210#32, 3196577785#32, 1202643972#32, 3048571442#32, 2204031141#32, 451003730#32⟩ := by
  rw [St.go, go22, wd22]
  exact St.eq_of (by decide +kernel)
theorem go24 : St.go (Wd (mw blk)) ini 24 = ⟨1536829517#32, 2040571305#32, 4033858610#32, 3205172210#32, 792805643#32, 1202643972#32, 3048571442#32, 2204031141#32⟩ := by
  rw [St.go, go23, wd23]
  exact St.eq_of (by decide +kernel)
theorem go25 : St.go (Wd (mw blk)) ini 25 = ⟨2528838751#32, 1536829517#32, 2040571305#32, 4033858610#32, 1609433212#32, 792805643#32, 1202643972#32, 3048571442#32⟩ := by
  rw [St.go, go24, wd24]
  exact St.eq_of (by decide +kernel)
theorem go26 : St.go (Wd (mw blk)) ini 26 = ⟨1113847472#32, 2528838751#32, 1536829517#32, 2040571305#32, 2882966528#32, 1609433212#32, 792805643#32, 1202643972#32⟩ := by
  rw [St.go, go25, wd25]
  exact St.eq_of (by decide +kernel)
theorem go27 : St.go (Wd (mw blk)) ini 27 = ⟨3831297394#32, 1113847472#32, 2528838751#32, 1536829517#32, 3766634244#32, 2882966528#32, 1609433212#32, 792805643#32⟩ := by
  rw [St.go, go26, wd26]
  exact St.eq_of (by decide +kernel)
theorem go28 : St.go (Wd (mw blk)) ini 28 = ⟨732895684#32, 3831297394#32, 1113847472#32, 2528838751#32, 1601665397#32, 3766634244#32, 2882966528#32, 1609433212#32⟩ := by
  rw [St.go, go27, wd27]
  exact St.eq_of (by decide +kernel)
theorem go29 : St.go (Wd (mw blk)) ini 29 = ⟨4251673586#32, 732895684#32, 3831297394#32, 1113847472#32, 3104368314#32, 1601665397#32, 3766634244#32, 2882966528#32⟩ := by
  rw [St.go, go28, wd28]
  exact St.eq_of (by decide +kernel)
theorem go30 : St.go (Wd (mw blk)) ini 30 = ⟨1468564898#32, 4251673586#32, 732895684#32, 3831297394#32, 2671383054#32, 3104368314#32, 1601665397#32, 3766634244#32⟩ := by
  rw [St.go, go29, wd29]
  exact St.eq_of (by decide +kernel)
theorem go31 : St.go (Wd (mw blk)) ini 31 = ⟨2819460434#32, 1468564898#32, 4251673586#32, 732895684#32, 1910074480#32, 2671383054#32, 3104368314#32, 1601665397#32⟩ := by
  rw [St.go, go30, wd30]
  exact St.eq_of (by decide +kernel)
theorem go32 : St.go (Wd (mw blk)) ini 32 = ⟨1055633301#32, 2819460434#32, 1468564898#32, 4251673586#32, 1995299279#32, 1910074480#32, 2671383054#32, 3104368314#32⟩ := by
  rw [St.go, go31, wd31]
  exact St.eq_of (by decide +kernel)
theorem go33 : St.go (Wd (mw blk)) ini 33 = ⟨2305035990#32, 1055633301#32, 2819460434#32, 1468564898#32, 2862128371#32, 1995299279#32, 1910074480#32, 2671383054#32⟩ := by
  rw [St.go, go32, wd32]
  exact St.eq_of (by decide +kernel)
theorem go34 : St.go (Wd (mw blk)) ini 34 = ⟨1364533767#32, 2305035990#32, 1055633301#32, 2819460434#32, 3147433251#32, 2862128371#32, 1995299279#32, 1910074480#32⟩ := by
  rw [St.go, go33, wd33]
  exact St.eq_of (by decide +kernel)
theorem go35 : St.go (Wd (mw blk)) ini 35 = ⟨9193713#32, 1364533767#32, 2305035990#32, 1055633301#32, 4266444863#32, 3147433251#32, 2862128371#32, 1995299279#32⟩ := by
  rw [St.go, go34, wd34]
  exact St.eq_of (by decide +kernel)
theorem go36 : St.go (Wd (mw blk)) ini 36 = ⟨3042626767#32, 9193713#32, 1364533767#32, 2305035990#32, 3162087217#32, 4266444863#32, 3147433251#32, 2862128371#32⟩ := by
  rw [St.go, go35, wd35]
  exact St.eq_of (by decide +kernel)
theorem go37 : St.go (Wd (mw blk)) ini 37 = ⟨1151718143#32, 3042626767#32, 9193713#32, 1364533767#32, 3700781534#32, 3162087217#32, 4266444863#32, 3147433251#32⟩ := by
  rw [St.go, go36, wd36]
  exact St.eq_of (by decide +kernel)
theorem go38 : St.go (Wd (mw blk)) ini 38 = ⟨2310628336#32, 1151718143#32, 3042626767#32, 9193713#32, 82382965#32, 3700781534#32, 3162087217#32, 4266444863#32⟩ := by
  rw [St.go, go37, wd37]
  exact St.eq_of (by decide +kernel)
theorem go39 : St.go (Wd (mw blk)) ini 39 = ⟨3292435252#32, 2310628336#32, 1151718143#32, 3042626767#32, 1722499605#32, 82382965#32, 3700781534#32, 3162087217#32⟩ := by
  rw [St.go, go38, wd38]
  exact St.eq_of (by decide +kernel)
theorem go40 : St.go (Wd (mw blk)) ini 40 = ⟨1681090099#32, 3292435252#32, 2310628336#32, 1151718143#32, 32180453#32, 1722499605#32, 82382965#32, 3700781534#32⟩ := by
  rw [St.go, go39, wd39]
  exact St.eq_of (by decide +kernel)
theorem go41 : St.go (Wd (mw blk)) ini 41 = ⟨1770502843#32, 1681090099#32, 3292435252#32, 2310628336#32, 3303208195#32, 32180453#32, 1722499605#32, 82382965#32⟩ := by
  rw [St.go, go40, wd40]
  exact St.eq_of (by decide +kernel)
theorem go42 : St.go (Wd (mw blk)) ini 42 = ⟨2395345743#32, 1770502843#32, 1681090099#32, 3292435252#32, 2734126551#32, 3303208195#32, 32180453#32, 1722499605#32⟩ := by
  rw [St.go, go41, wd41]
  exact St.eq_of (by decide +kernel)
theorem go43 : St.go (Wd (mw blk)) ini 43 = ⟨2036041327#32, 2395345743#32, 1770502843#32, 1681090099#32, 1871846032#32, 2734126551#32, 3303208195#32, 32180453#32⟩ := by
  rw [St.go, go42, wd42]
  exact St.eq_of (by decide +kernel)
theorem go44 : St.go (Wd (mw blk)) ini 44 = ⟨1026060219#32, 2036041327#32, 2395345743#32, 1770502843#32, 3026169053#32, 1871846032#32, 2734126551#32, 3303208195#32⟩ := by
  rw [St.go, go43, wd43]
  exact St.eq_of (by decide +kernel)
theorem go45 : St.go (Wd (mw blk)) ini 45 = ⟨2673947378#32, 1026060219#32, 2036041327#32, 2395345743#32, 3094464485#32, 3026169053#32, 1871846032#32, 2734126551#32⟩ := by
  rw [St.go, go44, wd44]
  exact St.eq_of (by decide +kernel)
theorem go46 : St.go (Wd (mw blk)) ini 46 = ⟨3041422000#32, 2673947378#32, 1026060219#32, 2036041327#32, 1377687868#32, 3094464485#32, 3026169053#32, 1871846032#32⟩ := by
  rw [St.go, go45, wd45]
  exact St.eq_of (by decide +kernel)
theorem go47 : St.go (Wd (mw blk)) ini 47 = ⟨3272296704#32, 3041422000#32, 2673947378#32, 1026060219#32, 629207683#32, 1377687868#32, 3094464485#32, 3026169053#32⟩ := by
  rw [St.go, go46, wd46]
  exact St.eq_of (by decide +kernel)
theorem go48 : St.go (Wd (mw blk)) ini 48 = ⟨418048349#32, 3272296704#32, 3041422000#32, 2673947378#32, 1760109906#32, 629207683#32, 1377687868#32, 3094464485#32⟩ := by
  rw [St.go, go47, wd47]
  exact St.eq_of (by decide +kernel)
theorem go49 : St.go (Wd (mw blk)) ini 49 = ⟨2032755422#32, 418048349#32, 3272296704#32, 3041422000#32, 3754500957#32, 1760109906#32, 629207683#32, 1377687868#32⟩ := by
  rw [St.go, go48, wd48]
  exact St.eq_of (by decide +kernel)
theorem go50 : St.go (Wd (mw blk)) ini 50 = ⟨4177128510#32, 2032755422#32, 418048349#32, 3272296704#32, 669255034#32, 3754500957#32, 1760109906#32, 629207683#32⟩ := by
  rw [St.go, go49, wd49]
  exact St.eq_of (by decide +kernel)
theorem go51 : St.go (Wd (mw blk)) ini 51 = ⟨1427127739#32, 4177128510#32, 2032755422#32, 418048349#32, 1723356986#32, 669255034#32, 3754500957#32, 1760109906#32⟩ := by
  rw [St.go, go50, wd50]
  exact St.eq_of (by decide +kernel)
theorem go52 : St.go (Wd (mw blk)) ini 52 = ⟨2981204512#32, 1427127739#32, 4177128510#32, 2032755422#32, 3640312836#32, 1723356986#32, 669255034#32, 3754500957#32⟩ := by
  rw [St.go, go51, wd51]
  exact St.eq_of (by decide +kernel)
theorem go53 : St.go (Wd (mw blk)) ini 53 = ⟨1928067141#32, 2981204512#32, 1427127739#32, 4177128510#32, 2135044903#32, 3640312836#32, 1723356986#32, 669255034#32⟩ := by
  rw [St.go, go52, wd52]
  exact St.eq_of (by decide +kernel)
theorem go54 : St.go (Wd (mw blk)) ini 54 = ⟨1911876592#32, 1928067141#32, 2981204512#32, 1427127739#32, 3352077192#32, 2135044903#32, 3640312836#32, 1723356986#32⟩ := by
  rw [St.go, go53, wd53]
  exact St.eq_of (by decide +kernel)
theorem go55 : St.go (Wd (mw blk)) ini 55 = ⟨4055260225#32, 1911876592#32, 1928067141#32, 2981204512#32, 1149446912#32, 3352077192#32, 2135044903#32, 3640312836#32⟩ := by
  rw [St.go, go54, wd54]
  exact St.eq_of (by decide +kernel)
theorem go56 : St.go (Wd (mw blk)) ini 56 = ⟨3879672747#32, 4055260225#32, 1911876592#32, 1928067141#32, 3756431398#32, 1149446912#32, 3352077192#32, 2135044903#32⟩ := by
  rw [St.go, go55, wd55]
  exact St.eq_of (by decide +kernel)
theorem go57 : St.go (Wd (mw blk)) ini 57 = ⟨1771186552#32, 3879672747#32, 4055260225#32, 1911876592#32, 298415438#32, 3756431398#32, 1149446912#32, 3352077192#32⟩ := by
  rw [St.go, go56, wd56]
  exact St.eq_of (by decide +kernel)
theorem go58 : St.go (Wd (mw blk)) ini 58 = ⟨866438871#32, 1771186552#32, 3879672747#32, 4055260225#32, 2866903541#32, 298415438#32, 3756431398#32, 1149446912#32⟩ := by
  rw [St.go, go57, wd57]
  exact St.eq_of (by decide +kernel)
theorem go59 : St.go (Wd (mw blk)) ini 59 = ⟨2374638555#32, 866438871#32, 1771186552#32, 3879672747#32, 4062083524#32, 2866903541#32, 298415438#32, 3756431398#32⟩ := by
  rw [St.go, go58, wd58]
  exact St.eq_of (by decide +kernel)
theorem go60 : St.go (Wd (mw blk)) ini 60 = ⟨966028272#32, 2374638555#32, 866438871#32, 1771186552#32, 3783259952#32, 4062083524#32, 2866903541#32, 298415438#32⟩ := by
  rw [St.go, go59, wd59]
  exact St.eq_of (by decide +kernel)
theorem go61 : St.go (Wd (mw blk)) ini 61 = ⟨497005535#32, 966028272#32, 2374638555#32, 866438871#32, 1298299595#32, 3783259952#32, 4062083524#32, 2866903541#32⟩ := by
  rw [St.go, go60, wd60]
  exact St.eq_of (by decide +kernel)
theorem go62 : St.go (Wd (mw blk)) ini 62 = ⟨177190837#32, 497005535#32, 966028272#32, 2374638555#32, 4182101557#32, 1298299595#32, 3783259952#32, 4062083524#32⟩ := by
  rw [St.go, go61, wd61]
  exact St.eq_of (by decide +kernel)
theorem go63 : St.go (Wd (mw blk)) ini 63 = ⟨1894035105#32, 177190837#32, 497005535#32, 966028272#32, 586787021#32, 4182101557#32, 1298299595#32, 3783259952#32⟩ := by
  rw [St.go, go62, wd62]
  exact St.eq_of (by decide +kernel)
theorem go64 : St.go (Wd (mw blk)) ini 64 = ⟨1032248716#32, 1894035105#32, 177190837#32, 497005535#32, 2734909561#32, 586787021#32, 4182101557#32, 1298299595#32⟩ := by
  rw [St.go, go63, wd63]
  exact St.eq_of (by decide +kernel)
def fin : St := ⟨2732885382#32, 1026030040#32, 1689030016#32, 607298029#32, 1199410252#32, 1865719062#32, 3571968279#32, 3324627671#32⟩
theorem comp_is : St.comp (Wd (mw blk)) ini = fin := by
  rw [St.comp, go64]
  exact St.eq_of (by decide +kernel)
end K2
end Rd
end Go.Proofs.YthojdcmkajmdjaaDoor

namespace Go.Proofs.YthojdcmkajmdjaaDoor
namespace Rd
namespace K3
def blk : ByteArray := ⟨#[22, 57, 58, 57, 92, 92, 92, 92, 92, 92, 92, 92, 92, 92, 92, 92, 92, 92, 92, 92, 92, 92, 92, 92, 92, 92, 92, 92, 92, 92, 92, 92, 92, 92, 92, 92, 92, 92, 92, 92, 92, 92, 92, 92, 92, 92, 92, 92, 92, 92, 92, 92, 92, 92, 92, 92, 92, 92, 92, 92, 92, 92, 92, 92]⟩
def ini : St := ⟨1779033703#32, 3144134277#32, 1013904242#32, 2773480762#32, 1359893119#32, 2600822924#32, 528734635#32, 1541459225#32⟩
theorem wd0 : Wd (mw blk) 0 = 372849209#32 := (Wd_low _ _ (by decide)).trans (by decide +kernel)
theorem wd1 : Wd (mw blk) 1 = 1549556828#32 := (Wd_low _ _ (by decide)).trans (by decide +kernel)
theorem wd2 : Wd (mw blk) 2 = 1549556828#32 := (Wd_low _ _ (by decide)).trans (by decide +kernel)
theorem wd3 : Wd (mw blk) 3 = 1549556828#32 := (Wd_low _ _ (by decide)).trans (by decide +kernel)
theorem wd4 : Wd (mw blk) 4 = 1549556828#32 := (Wd_low _ _ (by decide)).trans (by decide +kernel)
theorem wd5 : Wd (mw blk) 5 = 1549556828#32 := (Wd_low _ _ (by decide)).trans (by decide +kernel)
theorem wd6 : Wd (mw blk) 6 = 1549556828#32 := (Wd_low _ _ (by decide)).trans (by decide +kernel)
theorem wd7 : Wd (mw blk) 7 = 1549556828#32 := (Wd_low _ _ (by decide)).trans (by decide +kernel)
theorem wd8 : Wd (mw blk) 8 = 1549556828#32 := (Wd_low _ _ (by decide)).trans (by decide +kernel)
theorem wd9 : Wd (mw blk) 9 = 1549556828#32 := (Wd_low _ _ (by decide)).trans (by decide +kernel)
theorem wd10 : Wd (mw blk) 10 = 1549556828#32 := (Wd_low _ _ (by decide)).trans (by decide +kernel)
theorem wd11 : Wd (mw blk) 11 = 1549556828#32 := (Wd_low _ _ (by decide)).trans (by decide +kernel)
theorem wd12 : Wd (mw blk) 12 = 1549556828#32 := (Wd_low _ _ (by decide)).trans (by decide +kernel)
theorem wd13 : Wd (mw blk) 13 = 1549556828#32 := (Wd_low _ _ (by decide)).trans (by decide +kernel)
theorem wd14 : Wd (mw blk) 14 = 1549556828#32 := (Wd_low _ _ (by decide)).trans (by decide +kernel)
theorem wd15 : Wd (mw blk) 15 = 1549556828#32 := (Wd_low _ _ (by decide)).trans (by decide +kernel)
theorem wd16 : Wd (mw blk) 16 = 3161222507#32 := by
  have h := Wd_rec (mw blk) 16 (by decide)
  simp only [Nat.reduceSub, wd0, wd1, wd9, wd14] at h
  exact h.trans (by decide +kernel)
theorem wd17 : Wd (mw blk) 17 = 42962830#32 := by
  have h := Wd_rec (mw blk) 17 (by decide)
  simp only [Nat.reduceSub, wd1, wd2, wd10, wd15] at h
  exact h.trans (by decide +kernel)
theorem wd18 : Wd (mw blk) 18 = 404000636#32 := by
  have h := Wd_rec (mw blk) 18 (by decide)
  simp only [Nat.reduceSub, wd2, wd3, wd11, wd16] at h
  exact h.trans (by decide +kernel)
theorem wd19 : Wd (mw blk) 19 = 2467512273#32 := by
  have h := Wd_rec (mw blk) 19 (by decide)
  simp only [Nat.reduceSub, wd3, wd4, wd12, wd17] at h
  exact h.trans (by decide +kernel)
theorem wd20 : Wd (mw blk) 20 = 859072263#32 := by
  have h := Wd_rec (mw blk) 20 (by decide)
  simp only [Nat.reduceSub, wd4, wd5, wd13, wd18] at h
  exact h.trans (by decide +kernel)
theorem wd21 : Wd (mw blk) 21 = 1427315712#32 := by
  have h := Wd_rec (mw blk) 21 (by decide)
  simp only [Nat.reduceSub, wd5, wd6, wd14, wd19] at h
  exact h.trans (by decide +kernel)
theorem wd22 : Wd (mw blk) 22 = 474779585#32 := by
  have h := Wd_rec (mw blk) 22 (by decide)
  simp only [Nat.reduceSub, wd6, wd7, wd15, wd20] at h
  exact h.trans (by decide +kernel)
theorem wd23 : Wd (mw blk) 23 = 2860667607#32 := by
  have h := Wd_rec (mw blk) 23 (by decide)
  simp only [Nat.reduceSub, wd7, wd8, wd16, wd21] at h
  exact h.trans (by decide +kernel)
theorem wd24 : Wd (mw blk) 24 = 3643788954#32 := by
  have h := Wd_rec (mw blk) 24 (by decide)
  simp only [Nat.reduceSub, wd8, wd9, wd17, wd22] at h
  exact h.trans (by decide +kernel)
theorem wd25 : Wd (mw blk) 25 = 2075168897#32 := by
  have h := Wd_rec (mw blk) 25 (by decide)
  simp only [Nat.reduceSub, wd9, wd10, wd18, wd23] at h
  exact h.trans (by decide +kernel)
theorem wd26 : Wd (mw blk) 26 = 2990292114#32 := by
  have h := Wd_rec (mw blk) 26 (by decide)
  simp only [Nat.reduceSub, wd10, wd11, wd19, wd24] at h
  exact h.trans (by decide +kernel)
theorem wd27 : Wd (mw blk) 27 = 2382587409#32 := by
  have h := Wd_rec (mw blk) 27 (by decide)
  simp only [Nat.reduceSub, wd11, wd12, wd20, wd25] at h
  exact h.trans (by decide +kernel)
theorem wd28 : Wd (mw blk) 28 = 4018871510#32 := by
  have h := Wd_rec (mw blk) 28 (by decide)
  simp only [Nat.reduceSub, wd12, wd13, wd21, wd26] at h
  exact h.trans (by decide +kernel)
theorem wd29 : Wd (mw blk) 29 = 4239820377#32 := by
  have h := Wd_rec (mw blk) 29 (by decide)
  simp only [Nat.reduceSub, wd13, wd14, wd22, wd27] at h
  exact h.trans (by decide +kernel)
theorem wd30 : Wd (mw blk) 30 = 2563578954#32 := by
  have h := Wd_rec (mw blk) 30 (by decide)
  simp only [Nat.reduceSub, wd14, wd15, wd23, wd28] at h
  exact h.trans (by decide +kernel)
theorem wd31 : Wd (mw blk) 31 = 2769605070#32 := by
  have h := Wd_rec (mw blk) 31 (by decide)
  simp only [Nat.reduceSub, wd15, wd16, wd24, wd29] at h
  exact h.trans (by decide +kernel)
theorem wd32 : Wd (mw blk) 32 = 1700698225#32 := by
  have h := Wd_rec (mw blk) 32 (by decide)
  simp only [Nat.reduceSub, wd16, wd17, wd25, wd30] at h
  exact h.trans (by decide +kernel)
theorem wd33 : Wd (mw blk) 33 = 2159103536#32 := by
  have h := Wd_rec (mw blk) 33 (by decide)
  simp only [Nat.reduceSub, wd17, wd18, wd26, wd31] at h
  exact h.trans (by decide +kernel)
theorem wd34 : Wd (mw blk) 34 = 3287802992#32 := by
  have h := Wd_rec (mw blk) 34 (by decide)
  simp only [Nat.reduceSub, wd18, wd19, wd27, wd32] at h
  exact h.trans (by decide +kernel)
theorem wd35 : Wd (mw blk) 35 = 593363367#32 := by
  have h := Wd_rec (mw blk) 35 (by decide)
  simp only [Nat.reduceSub, wd19, wd20, wd28, wd33] at h
  exact h.trans (by decide +kernel)
theorem wd36 : Wd (mw blk) 36 = 192529112#32 := by
  have h := Wd_rec (mw blk) 36 (by decide)
  simp only [Nat.reduceSub, wd20, wd21, wd29, wd34] at h
  exact h.trans (by decide +kernel)
theorem wd37 : Wd (mw blk) 37 = 1360079490#32 := by
  have h := Wd_rec (mw blk) 37 (by decide)
  simp only [Nat.reduceSub, wd21, wd22, wd30, wd35] at h
  exact h.trans (by decide +kernel)
theorem wd38 : Wd (mw blk) 38 = 3376930961#32 := by
  have h := Wd_rec (mw blk) 38 (by decide)
  simp only [Nat.reduceSub, wd22, wd23, wd31, wd36] at h
  exact h.trans (by decide +kernel)
theorem wd39 : Wd (mw blk) 39 = 2635538989#32 := by
  have h := Wd_rec (mw blk) 39 (by decide)
  simp only [Nat.reduceSub, wd23, wd24, wd32, wd37] at h
  exact h.trans (by decide +kernel)
theorem wd40 : Wd (mw blk) 40 = 2414532378#32 := by
  have h := Wd_rec (mw blk) 40 (by decide)
  simp only [Nat.reduceSub, wd24, wd25, wd33, wd38] at h
  exact h.trans (by decide +kernel)
theorem wd41 : Wd (mw blk) 41 = 4045668662#32 := by
  have h := Wd_rec (mw blk) 41 (by decide)
  simp only [Nat.reduceSub, wd25, wd26, wd34, wd39] at h
  exact h.trans (by decide +kernel)
theorem wd42 : Wd (mw blk) 42 = 4064294020#32 := by
  have h := Wd_rec (mw blk) 42 (by decide)
  simp only [Nat.reduceSub, wd26, wd27, wd35, wd40] at h
  exact h.trans (by decide +kernel)
theorem wd43 : Wd (mw blk) 43 = 2434459360#32 := by
  have h := Wd_rec (mw blk) 43 (by decide)
  simp only [Nat.reduceSub, wd27, wd28, wd36, wd41] at h
  exact h.trans (by decide +kernel)
theorem wd44 : Wd (mw blk) 44 = 1803846055#32 := by
  have h := Wd_rec (mw blk) 44 (by decide)
  simp only [Nat.reduceSub, wd28, wd29, wd37, wd42] at h
  exact h.trans (by decide +kernel)
theorem wd45 : Wd (mw blk) 45 = 3066110595#32 := by
  have h := Wd_rec (mw blk) 45 (by decide)
  simp only [Nat.reduceSub, wd29, wd30, wd38, wd43] at h
  exact h.trans (by decide +kernel)
theorem wd46 : Wd (mw blk) 46 = 3296531176#32 := by
  have h := Wd_rec (mw blk) 46 (by decide)
  simp only [Nat.reduceSub, wd30, wd31, wd39, wd44] at h
  exact h.trans (by decide +kernel)
theorem wd47 : Wd (mw blk) 47 = 850984513#32 := by
  have h := Wd_rec (mw blk) 47 (by decide)
  simp only [Nat.reduceSub, wd31, wd32, wd40, wd45] at h
  exact h.trans (by decide +kernel)
theorem wd48 : Wd (mw blk) 48 = 2755029778#32 := by
  have h := Wd_rec (mw blk) 48 (by decide)
  simp only [Nat.reduceSub, wd32, wd33, wd41, wd46] at h
  exact h.trans (by decide +kernel)
theorem wd49 : Wd (mw blk) 49 = 3569006499#32 := by
  have h := Wd_rec (mw blk) 49 (by decide)
  simp only [Nat.reduceSub, wd33, wd34, wd42, wd47] at h
  exact h.trans (by decide +kernel)
theorem wd50 : Wd (mw blk) 50 = 404327223#32 := by
  have h := Wd_rec (mw blk) 50 (by decide)
  simp only [Nat.reduceSub, wd34, wd35, wd43, wd48] at h
  exact h.trans (by decide +kernel)
theorem wd51 : Wd (mw blk) 51 = 1573063349#32 := by
  have h := Wd_rec (mw blk) 51 (by decide)
  simp only [Nat.reduceSub, wd35, wd36, wd44, wd49] at h
  exact h.trans (by decide +kernel)
theorem wd52 : Wd (mw blk) 52 = 4216775177#32 := by
  have h := Wd_rec (mw blk) 52 (by decide)
  simp only [Nat.reduceSub, wd36, wd37, wd45, wd50] at h
  exact h.trans (by decide +kernel)
theorem wd53 : Wd (mw blk) 53 = 3158815879#32 := by
  have h := Wd_rec (mw blk) 53 (by decide)
  simp only [Nat.reduceSub, wd37, wd38, wd46, wd51] at h
  exact h.trans (by decide +kernel)
theorem wd54 : Wd (mw blk) 54 = 697279375#32 := by
  have h := Wd_rec (mw blk) 54 (by decide)
  simp only [Nat.reduceSub, wd38, wd39, wd47, wd52] at h
  exact h.trans (by decide +kernel)
theorem wd55 : Wd (mw blk) 55 = 4285395516#32 := by
  have h := Wd_rec (mw blk) 55 (by decide)
  simp only [Nat.reduceSub, wd39, wd40, wd48, wd53] at h
  exact h.trans (by decide +kernel)
theorem wd56 : Wd (mw blk) 56 = 4260173128#32 := by
  have h := Wd_rec (mw blk) 56 (by decide)
  simp only [Nat.reduceSub, wd40, wd41, wd49, wd54] at h
  exact h.trans (by decide +kernel)
theorem wd57 : Wd (mw blk) 57 = 1798406653#32 := by
  have h := Wd_rec (mw blk) 57 (by decide)
  simp only [Nat.reduceSub, wd41, wd42, wd50, wd55] at h
  exact h.trans (by decide +kernel)
theorem wd58 : Wd (mw blk) 58 = 3807291038#32 := by
  have h := Wd_rec (mw blk) 58 (by decide)
  simp only [Nat.reduceSub, wd42, wd43, wd51, wd56] at h
  exact h.trans (by decide +kernel)
theorem wd59 : Wd (mw blk) 59 = 3776700765#32 := by
  have h := Wd_rec (mw blk) 59 (by decide)
  simp only [Nat.reduceSub, wd43, wd44, wd52, wd57] at h
  exact h.trans (by decide +kernel)
theorem wd60 : Wd (mw blk) 60 = 142973014#32 := by
  have h := Wd_rec (mw blk) 60 (by decide)
  simp only [Nat.reduceSub, wd44, wd45, wd53, wd58] at h
  exact h.trans (by decide +kernel)
theorem wd61 : Wd (mw blk) 61 = 4207622607#32 := by
  have h := Wd_rec (mw blk) 61 (by decide)
  simp only [Nat.reduceSub, wd45, wd46, wd54, wd59] at h
  exact h.trans (by decide +kernel)
theorem wd62 : Wd (mw blk) 62 = 4273015794#32 := by
  have h := Wd_rec (mw blk) 62 (by decide)
  simp only [Nat.reduceSub, wd46, wd47, wd55, wd60] at h
  exact h.trans (by decide +kernel)
theorem wd63 : Wd (mw blk) 63 = 3616591156#32 := by
  have h := Wd_rec (mw blk) 63 (by decide)
  simp only [Nat.reduceSub, wd47, wd48, wd56, wd61] at h
  exact h.trans (by decide +kernel)
theorem go0 : St.go (Wd (mw blk)) ini 0 = ⟨1779033703#32, 3144134277#32, 1013904242#32, 2773480762#32, 1359893119#32, 2600822924#32, 528734635#32, 1541459225#32⟩ := rfl
theorem go1 : St.go (Wd (mw blk)) ini 1 = ⟨306299526#32, 1779033703#32, 3144134277#32, 1013904242#32, 2936085723#32, 1359893119#32, 2600822924#32, 528734635#32⟩ := by
  rw [St.go, go0, wd0]
  exact St.eq_of (by decide +kernel)
theorem go2 : St.go (Wd (mw blk)) ini 2 = ⟨1162892779#32, 306299526#32, 1779033703#32, 3144134277#32, 2949801968#32, 2936085723#32, 1359893119#32, 2600822924#32⟩ := by
  rw [St.go, go1, wd1]
  exact St.eq_of (by decide +kernel)
theorem go3 : St.go (Wd (mw blk)) ini 3 = ⟨56851182#32, 1162892779#32, 306299526#32, 1779033703#32, 1026543519#32, 2949801968#32, 2936085723#32, 1359893119#32⟩ := by
  rw [St.go, go2, wd2]
  exact St.eq_of (by decide +kernel)
theorem go4 : St.go (Wd (mw blk)) ini 4 = ⟨1016891460#32, 56851182#32, 1162892779#32, 306299526#32, 3374423568#32, 1026543519#32, 2949801968#32, 2936085723#32⟩ := by
  rw [St.go, go3, wd3]
  exact St.eq_of (by decide +kernel)
theorem go5 : St.go (Wd (mw blk)) ini 5 = ⟨3407021222#32, 1016891460#32, 56851182#32, 1162892779#32, 2564593719#32, 3374423568#32, 1026543519#32, 2949801968#32⟩ := by
  rw [St.go, go4, wd4]
  exact St.eq_of (by decide +kernel)
theorem go6 : St.go (Wd (mw blk)) ini 6 = ⟨2970825623#32, 3407021222#32, 1016891460#32, 56851182#32, 259030527#32, 2564593719#32, 3374423568#32, 1026543519#32⟩ := by
  rw [St.go, go5, wd5]
  exact St.eq_of (by decide +kernel)
theorem go7 : St.go (Wd (mw blk)) ini 7 = ⟨3846845587#32, 2970825623#32, 3407021222#32, 1016891460#32, 4083389507#32, 259030527#32, 2564593719#32, 3374423568#32⟩ := by
  rw [St.go, go6, wd6]
  exact St.eq_of (by decide +kernel)
theorem go8 : St.go (Wd (mw blk)) ini 8 = ⟨1766020873#32, 3846845587#32, 2970825623#32, 3407021222#32, 1336721878#32, 4083389507#32, 259030527#32, 2564593719#32⟩ := by
  rw [St.go, go7, wd7]
  exact St.eq_of (by decide +kernel)
theorem go9 : St.go (Wd (mw blk)) ini 9 = ⟨2530474846#32, 1766020873#32, 3846845587#32, 2970825623#32, 2438729204#32, 1336721878#32, 4083389507#32, 259030527#32⟩ := by
  rw [St.go, go8, wd8]
  exact St.eq_of (by decide +kernel)
theorem go10 : St.go (Wd (mw blk)) ini 10 = ⟨3124892255#32, 2530474846#32, 1766020873#32, 3846845587#32, 1432657096#32, 2438729204#32, 1336721878#32, 4083389507#32⟩ := by
  rw [St.go, go9, wd9]
  exact St.eq_of (by decide +kernel)
theorem go11 : St.go (Wd (mw blk)) ini 11 = ⟨3359021770#32, 3124892255#32, 2530474846#32, 1766020873#32, 2132366224#32, 1432657096#32, 2438729204#32, 1336721878#32⟩ := by
  rw [St.go, go10, wd10]
  exact St.eq_of (by decide +kernel)
theorem go12 : St.go (Wd (mw blk)) ini 12 = ⟨3996609976#32, 3359021770#32, 3124892255#32, 2530474846#32, 4277624381#32, 2132366224#32, 1432657096#32, 2438729204#32⟩ := by
  rw [St.go, go11, wd11]
  exact St.eq_of (by decide +kernel)
theorem go13 : St.go (Wd (mw blk)) ini 13 = ⟨2712017991#32, 3996609976#32, 3359021770#32, 3124892255#32, 3259478878#32, 4277624381#32, 2132366224#32, 1432657096#32⟩ := by
  rw [St.go, go12, wd12]
  exact St.eq_of (by decide +kernel)
theorem go14 : St.go (Wd (mw blk)) ini 14 = ⟨3747850377#32, 2712017991#32, 3996609976#32, 3359021770#32, 524945783#32, 3259478878#32, 4277624381#32, 2132366224#32⟩ := by
  rw [St.go, go13, wd13]
  exact St.eq_of (by decide +kernel)
theorem go15 : St.go (Wd (mw blk)) ini 15 = ⟨1581181863#32, 3747850377#32, 2712017991#32, 3996609976#32, 2048533414#32, 524945783#32, 3259478878#32, 4277624381#32⟩ := by
  rw [St.go, go14, wd14]
  exact St.eq_of (by decide +kernel)
theorem go16 : St.go (Wd (mw blk)) ini 16 = ⟨3887641967#32, 1581181863#32, 3747850377#32, 2712017991#32, 2242749498#32, 2048533414#32, 524945783#32, 3259478878#32⟩ := by
  rw [St.go, go15, wd15]
  exact St.eq_of (by decide +kernel)
theorem go17 : St.go (Wd (mw blk)) ini 17 = ⟨3366791942#32, 3887641967#32, 1581181863#32, 3747850377#32, 3671322270#32, 2242749498#32, 2048533414#32, 524945783#32⟩ := by
  rw [St.go, go16, wd16]
  exact St.eq_of (by decide +kernel)
theorem go18 : St.go (Wd (mw blk)) ini 18 = ⟨2698420256#32, 3366791942#32, 3887641967#32, 1581181863#32, 1389136120#32, 3671322270#32, 2242749498#32, 2048533414#32⟩ := by
  rw [St.go, go17, wd17]
  exact St.eq_of (by decide +kernel)
theorem go19 : St.go (Wd (mw blk)) ini 19 = ⟨1715724929#32, 2698420256#32, 3366791942#32, 3887641967#32, 1880490180#32, 1389136120#32, 3671322270#32, 2242749498#32⟩ := by
  rw [St.go, go18, wd18]
  exact St.eq_of (by decide +kernel)
theorem go20 : St.go (Wd (mw blk)) ini 20 = ⟨1018896082#32, 1715724929#32, 2698420256#32, 3366791942#32, 26895131#32, 1880490180#32, 1389136120#32, 3671322270#32⟩ := by
  rw [St.go, go19, wd19]
  exact St.eq_of (by decide +kernel)
theorem go21 : St.go (Wd (mw blk)) ini 21 = ⟨188215122#32, 1018896082#32, 1715724929#32, 2698420256#32, 424480058#32, 26895131#32, 1880490180#32, 1389136120#32⟩ := by
  rw [St.go, go20, wd20]
  exact St.eq_of (by decide +kernel)
theorem go22 : St.go (Wd (mw blk)) ini 22 = ⟨2468578610#32, 188215122#32, 1018896082#32, 1715724929#32, 3722791993#32, 424480058#32, 26895131#32, 1880490180#32⟩ := by
  rw [St.go, go21, wd21]
  exact St.eq_of (by decide +kernel)
theorem go23 : St.go (Wd (mw blk)) ini 23 = ⟨3017334912#32, 2468578610#32, 188215122#32, 1018896082#32, 4221600147#32, 3722791993#32, 424480058#32, 26895131#32⟩ := by
  rw [St.go, go22, wd22]
  exact St.eq_of (by decide +kernel)
theorem go24 : St.go (Wd (mw blk)) ini 24 = ⟨2306479146#32, 3017334912#32, 2468578610#32, 188215122#32, 3884952002#32, 4221600147#32, 3722791993#32, 424480058#32⟩ := by
  rw [St.go, go23, wd23]
  exact St.eq_of (by decide +kernel)
theorem go25 : St.go (Wd (mw blk)) ini 25 = ⟨4186376739#32, 2306479146#32, 3017334912#32, 2468578610#32, 2246709332#32, 3884952002#32, 4221600147#32, 3722791993#32⟩ := by
  rw [St.go, go24, wd24]
  exact St.eq_of (by decide +kernel)
theorem go26 : St.go (Wd (mw blk)) ini 26 = ⟨470934947#32, 4186376739#32, 2306479146#32, 3017334912#32, 1107618141#32, 2246709332#32, 3884952002#32, 4221600147#32⟩ := by
  rw [St.go, go25, wd25]
  exact St.eq_of (by decide +kernel)
theorem go27 : St.go (Wd (mw blk)) ini 27 = ⟨2799500822#32, 470934947#32, 4186376739#32, 2306479146#32, 337167580#32, 1107618141#32, 2246709332#32, 3884952002#32⟩ := by
  rw [St.go, go26, wd26]
  exact St.eq_of (by decide +kernel)
theorem go28 : St.go (Wd (mw blk)) ini 28 = ⟨2249207827#32, 2799500822#32, 470934947#32, 4186376739#32, 670695969#32, 337167580#32, 1107618141#32, 2246709332#32⟩ := by
  rw [St.go, go27, wd27]
  exact St.eq_of (by decide +kernel)
theorem go29 : St.go (Wd (mw blk)) ini 29 = ⟨1712689412#32, 2249207827#32, 2799500822#32, 470934947#32, 3081974903#32, 670695969#32, 337167580#32, 1107618141#32⟩ := by
  rw [St.go, go28, wd28]
  exact St.eq_of (by decide +kernel)
theorem go30 : St.go (Wd (mw blk)) ini 30 = ⟨868661405#32, 1712689412#32, 2249207827#32, 2799500822#32, 3789662389#32, 3081974903#32, 670695969#32, 337167580#32⟩ := by
  rw [St.go, go29, wd29]
  exact St.eq_of (by decide +kernel)
theorem go31 : St.go (Wd (mw blk)) ini 31 = ⟨1181367301#32, 868661405#32, 1712689412#32, 2249207827#32, 876102953#32, 3789662389#32, 3081974903#32, 670695969#32⟩ := by
  rw [St.go, go30, wd30]
  exact St.eq_of (by decide +kernel)
theorem go32 : St.go (Wd (mw blk)) ini 32 = ⟨574063009#32, 1181367301#32, 868661405#32, 1712689412#32, 683692134#32, 876102953#32, 3789662389#32, 3081974903#32⟩ := by
  rw [St.go, go31, wd31]
  exact St.eq_of (by decide +kernel)
theorem go33 : St.go (Wd (mw blk)) ini 33 = ⟨3626113118#32, 574063009#32, 1181367301#32, 868661405#32, 2152627073#32, 683692134#32, 876102953#32, 3789662389#32⟩ := by
  rw [St.go, go32, wd32]
  exact St.eq_of (by decide +kernel)
theorem go34 : St.go (Wd (mw blk)) ini 34 = ⟨1424798098#32, 3626113118#32, 574063009#32, 1181367301#32, 1240602051#32, 2152627073#32, 683692134#32, 876102953#32⟩ := by
  rw [St.go, go33, wd33]
  exact St.eq_of (by decide +kernel)
theorem go35 : St.go (Wd (mw blk)) ini 35 = ⟨2910409935#32, 1424798098#32, 3626113118#32, 574063009#32, 4165811440#32, 1240602051#32, 2152627073#32, 683692134#32⟩ := by
  rw [St.go, go34, wd34]
  exact St.eq_of (by decide +kernel)
theorem go36 : St.go (Wd (mw blk)) ini 36 = ⟨3889237299#32, 2910409935#32, 1424798098#32, 3626113118#32, 2234547626#32, 4165811440#32, 1240602051#32, 2152627073#32⟩ := by
  rw [St.go, go35, wd35]
  exact St.eq_of (by decide +kernel)
theorem go37 : St.go (Wd (mw blk)) ini 37 = ⟨4217923895#32, 3889237299#32, 2910409935#32, 1424798098#32, 422689191#32, 2234547626#32, 4165811440#32, 1240602051#32⟩ := by
  rw [St.go, go36, wd36]
  exact St.eq_of (by decide +kernel)
theorem go38 : St.go (Wd (mw blk)) ini 38 = ⟨696199273#32, 4217923895#32, 3889237299#32, 2910409935#32, 2016505313#32, 422689191#32, 2234547626#32, 4165811440#32⟩ := by
  rw [St.go, go37, wd37]
  exact St.eq_of (by decide +kernel)
theorem go39 : St.go (Wd (mw blk)) ini 39 = ⟨3811746297#32, 696199273#32, 4217923895#32, 3889237299#32, 2944116815#32, 2016505313#32, 422689191#32, 2234547626#32⟩ := by
  rw [St.go, go38, wd38]
  exact St.eq_of (by decide +kernel)
theorem go40 : St.go (Wd (mw blk)) ini 40 = ⟨545631264#32, 3811746297#32, 696199273#32, 4217923895#32, 1599617395#32, 2944116815#32, 2016505313#32, 422689191#32⟩ := by
  rw [St.go, go39, wd39]
  exact St.eq_of (by decide +kernel)
theorem go41 : St.go (Wd (mw blk)) ini 41 = ⟨1797828738#32, 545631264#32, 3811746297#32, 696199273#32, 3318251945#32, 1599617395#32, 2944116815#32, 2016505313#32⟩ := by
  rw [St.go, go40, wd40]
  exact St.eq_of (by decide +kernel)
theorem go42 : St.go (Wd (mw blk)) ini 42 = ⟨378956838#32, 1797828738#32, 545631264#32, 3811746297#32, 551122726#32, 3318251945#32, 1599617395#32, 2944116815#32⟩ := by
  rw [St.go, go41, wd41]
  exact St.eq_of (by decide +kernel)
theorem go43 : St.go (Wd (mw blk)) ini 43 = ⟨3027682200#32, 378956838#32, 1797828738#32, 545631264#32, 3086942607#32, 551122726#32, 3318251945#32, 1599617395#32⟩ := by
  rw [St.go, go42, wd42]
  exact St.eq_of (by decide +kernel)
theorem go44 : St.go (Wd (mw blk)) ini 44 = ⟨711985500#32, 3027682200#32, 378956838#32, 1797828738#32, 703095673#32, 3086942607#32, 551122726#32, 3318251945#32⟩ := by
  rw [St.go, go43, wd43]
  exact St.eq_of (by decide +kernel)
theorem go45 : St.go (Wd (mw blk)) ini 45 = ⟨1532660519#32, 711985500#32, 3027682200#32, 378956838#32, 263508239#32, 703095673#32, 3086942607#32, 551122726#32⟩ := by
  rw [St.go, go44, wd44]
  exact St.eq_of (by decide +kernel)
theorem go46 : St.go (Wd (mw blk)) ini 46 = ⟨1342829627#32, 1532660519#32, 711985500#32, 3027682200#32, 1181544405#32, 263508239#32, 703095673#32, 3086942607#32⟩ := by
  rw [St.go, go45, wd45]
  exact St.eq_of (by decide +kernel)
theorem go47 : St.go (Wd (mw blk)) ini 47 = ⟨3864410346#32, 1342829627#32, 1532660519#32, 711985500#32, 4000080706#32, 1181544405#32, 263508239#32, 703095673#32⟩ := by
  rw [St.go, go46, wd46]
  exact St.eq_of (by decide +kernel)
theorem go48 : St.go (Wd (mw blk)) ini 48 = ⟨2203755050#32, 3864410346#32, 1342829627#32, 1532660519#32, 894360649#32, 4000080706#32, 1181544405#32, 263508239#32⟩ := by
  rw [St.go, go47, wd47]
  exact St.eq_of (by decide +kernel)
theorem go49 : St.go (Wd (mw blk)) ini 49 = ⟨3690913719#32, 2203755050#32, 3864410346#32, 1342829627#32, 2582946402#32, 894360649#32, 4000080706#32, 1181544405#32⟩ := by
  rw [St.go, go48, wd48]
  exact St.eq_of (by decide +kernel)
theorem go50 : St.go (Wd (mw blk)) ini 50 = ⟨2695898159#32, 3690913719#32, 2203755050#32, 3864410346#32, 1025222220#32, 2582946402#32, 894360649#32, 4000080706#32⟩ := by
  rw [St.go, go49, wd49]
  exact St.eq_of (by decide +kernel)
theorem go51 : St.go (Wd (mw blk)) ini 51 = ⟨1233167408#32, 2695898159#32, 3690913719#32, 2203755050#32, 2719646947#32, 1025222220#32, 2582946402#32, 894360649#32⟩ := by
  rw [St.go, go50, wd50]
  exact St.eq_of (by decide +kernel)
theorem go52 : St.go (Wd (mw blk)) ini 52 = ⟨480439019#32, 1233167408#32, 2695898159#32, 3690913719#32, 2765767855#32, 2719646947#32, 1025222220#32, 2582946402#32⟩ := by
  rw [St.go, go51, wd51]
  exact St.eq_of (by decide +kernel)
theorem go53 : St.go (Wd (mw blk)) ini 53 = ⟨4064638355#32, 480439019#32, 1233167408#32, 2695898159#32, 2848439616#32, 2765767855#32, 2719646947#32, 1025222220#32⟩ := by
  rw [St.go, go52, wd52]
  exact St.eq_of (by decide +kernel)
theorem go54 : St.go (Wd (mw blk)) ini 54 = ⟨3537630543#32, 4064638355#32, 480439019#32, 1233167408#32, 3576869957#32, 2848439616#32, 2765767855#32, 2719646947#32⟩ := by
  rw [St.go, go53, wd53]
  exact St.eq_of (by decide +kernel)
theorem go55 : St.go (Wd (mw blk)) ini 55 = ⟨3550970026#32, 3537630543#32, 4064638355#32, 480439019#32, 424073800#32, 3576869957#32, 2848439616#32, 2765767855#32⟩ := by
  rw [St.go, go54, wd54]
  exact St.eq_of (by decide +kernel)
theorem go56 : St.go (Wd (mw blk)) ini 56 = ⟨2324381631#32, 3550970026#32, 3537630543#32, 4064638355#32, 2762497735#32, 424073800#32, 3576869957#32, 2848439616#32⟩ := by
  rw [St.go, go55, wd55]
  exact St.eq_of (by decide +kernel)
theorem go57 : St.go (Wd (mw blk)) ini 57 = ⟨97305251#32, 2324381631#32, 3550970026#32, 3537630543#32, 4058389739#32, 2762497735#32, 424073800#32, 3576869957#32⟩ := by
  rw [St.go, go56, wd56]
  exact St.eq_of (by decide +kernel)
theorem go58 : St.go (Wd (mw blk)) ini 58 = ⟨2387828544#32, 97305251#32, 2324381631#32, 3550970026#32, 4131274507#32, 4058389739#32, 2762497735#32, 424073800#32⟩ := by
  rw [St.go, go57, wd57]
  exact St.eq_of (by decide +kernel)
theorem go59 : St.go (Wd (mw blk)) ini 59 = ⟨1729566623#32, 2387828544#32, 97305251#32, 2324381631#32, 386240819#32, 4131274507#32, 4058389739#32, 2762497735#32⟩ := by
  rw [St.go, go58, wd58]
  exact St.eq_of (by decide +kernel)
theorem go60 : St.go (Wd (mw blk)) ini 60 = ⟨3005196218#32, 1729566623#32, 2387828544#32, 97305251#32, 4243787571#32, 386240819#32, 4131274507#32, 4058389739#32⟩ := by
  rw [St.go, go59, wd59]
  exact St.eq_of (by decide +kernel)
theorem go61 : St.go (Wd (mw blk)) ini 61 = ⟨2280088978#32, 3005196218#32, 1729566623#32, 2387828544#32, 4145050812#32, 4243787571#32, 386240819#32, 4131274507#32⟩ := by
  rw [St.go, go60, wd60]
  exact St.eq_of (by decide +kernel)
theorem go62 : St.go (Wd (mw blk)) ini 62 = ⟨771439737#32, 2280088978#32, 3005196218#32, 1729566623#32, 71026655#32, 4145050812#32, 4243787571#32, 386240819#32⟩ := by
  rw [St.go, go61, wd61]
  exact St.eq_of (by decide +kernel)
theorem go63 : St.go (Wd (mw blk)) ini 63 = ⟨1473871847#32, 771439737#32, 2280088978#32, 3005196218#32, 3534433628#32, 71026655#32, 4145050812#32, 4243787571#32⟩ := by
  rw [St.go, go62, wd62]
  exact St.eq_of (by decide +kernel)
theorem go64 : St.go (Wd (mw blk)) ini 64 = ⟨2762341742#32, 1473871847#32, 771439737#32, 2280088978#32, 9874120#32, 3534433628#32, 71026655#32, 4145050812#32⟩ := by
  rw [St.go, go63, wd63]
  exact St.eq_of (by decide +kernel)
def fin : St := ⟨246408149#32, 323038828#32, 1785343979#32, 758602444#32, 1369767239#32, 1840289256#32, 599761290#32, 1391542741#32⟩
theorem comp_is : St.comp (Wd (mw blk)) ini = fin := by
  rw [St.comp, go64]
  exact St.eq_of (by decide +kernel)
end K3
namespace K4
def blk : ByteArray := ⟨#[162, 228, 133, 134, 61, 39, 249, 216, 100, 172, 141, 128, 36, 50, 161, 237, 71, 125, 140, 76, 111, 52, 157, 22, 212, 231, 233, 23, 198, 41, 202, 215, 128, 0, 0, 0, 0, 0, 0, 0, 0, 0, 0, 0, 0, 0, 0, 0, 0, 0, 0, 0, 0, 0, 0, 0, 0, 0, 0, 0, 0, 0, 3, 0]⟩
def ini : St := ⟨246408149#32, 323038828#32, 1785343979#32, 758602444#32, 1369767239#32, 1840289256#32, 599761290#32, 1391542741#32⟩
theorem wd0 : Wd (mw blk) 0 = 2732885382#32 := (Wd_low _ _ (by decide)).trans (by decide +kernel)
theorem wd1 : Wd (mw blk) 1 = 1026030040#32 := (Wd_low _ _ (by decide)).trans (by decide +kernel)
theorem wd2 : Wd (mw blk) 2 = 1689030016#32 := (Wd_low _ _ (by decide)).trans (by decide +kernel)
theorem wd3 : Wd (mw blk) 3 = 607298029#32 := (Wd_low _ _ (by decide)).trans (by decide +kernel)
theorem wd4 : Wd (mw blk) 4 = 1199410252#32 := (Wd_low _ _ (by decide)).trans (by decide +kernel)
theorem wd5 : Wd (mw blk) 5 = 1865719062#32 := (Wd_low _ _ (by decide)).trans (by decide +kernel)
theorem wd6 : Wd (mw blk) 6 = 3571968279#32 := (Wd_low _ _ (by decide)).trans (by decide +kernel)
theorem wd7 : Wd (mw blk) 7 = 3324627671#32 := (Wd_low _ _ (by decide)).trans (by decide +kernel)
theorem wd8 : Wd (mw blk) 8 = 2147483648#32 := (Wd_low _ _ (by decide)).trans (by decide +kernel)
theorem wd9 : Wd (mw blk) 9 = 0#32 := (Wd_low _ _ (by decide)).trans (by decide +kernel)
theorem wd10 : Wd (mw blk) 10 = 0#32 := (Wd_low _ _ (by decide)).trans (by decide +kernel)
theorem wd11 : Wd (mw blk) 11 = 0#32 := (Wd_low _ _ (by decide)).trans (by decide +kernel)
theorem wd12 : Wd (mw blk) 12 = 0#32 := (Wd_low _ _ (by decide)).trans (by decide +kernel)
theorem wd13 : Wd (mw blk) 13 = 0#32 := (Wd_low _ _ (by decide)).trans (by decide +kernel)
theorem wd14 : Wd (mw blk) 14 = 0#32 := (Wd_low _ _ (by decide)).trans (by decide +kernel)
theorem wd15 : Wd (mw blk) 15 = 768#32 := (Wd_low _ _ (by decide)).trans (by decide +kernel)
theorem wd16 : Wd (mw blk) 16 = 3968681223#32 := by
  have h := Wd_rec (mw blk) 16 (by decide)
  simp only [Nat.reduceSub, wd0, wd1, wd9, wd14] at h
  exact h.trans (by decide +kernel)
theorem wd17 : Wd (mw blk) 17 = 1850002264#32 := by
  have h := Wd_rec (mw blk) 17 (by decide)
  simp only [Nat.reduceSub, wd1, wd2, wd10, wd15] at h
  exact h.trans (by decide +kernel)
theorem wd18 : Wd (mw blk) 18 = 3849989752#32 := by
  have h := Wd_rec (mw blk) 18 (by decide)
  simp only [Nat.reduceSub, wd2, wd3, wd11, wd16] at h
  exact h.trans (by decide +kernel)
theorem wd19 : Wd (mw blk) 19 = 344041747#32 := by
  have h := Wd_rec (mw blk) 19 (by decide)
  simp only [Nat.reduceSub, wd3, wd4, wd12, wd17] at h
  exact h.trans (by decide +kernel)
theorem wd20 : Wd (mw blk) 20 = 2697272890#32 := by
  have h := Wd_rec (mw blk) 20 (by decide)
  simp only [Nat.reduceSub, wd4, wd5, wd13, wd18] at h
  exact h.trans (by decide +kernel)
theorem wd21 : Wd (mw blk) 21 = 542387609#32 := by
  have h := Wd_rec (mw blk) 21 (by decide)
  simp only [Nat.reduceSub, wd5, wd6, wd14, wd19] at h
  exact h.trans (by decide +kernel)
theorem wd22 : Wd (mw blk) 22 = 3352738969#32 := by
  have h := Wd_rec (mw blk) 22 (by decide)
  simp only [Nat.reduceSub, wd6, wd7, wd15, wd20] at h
  exact h.trans (by decide +kernel)
theorem wd23 : Wd (mw blk) 23 = 1462685961#32 := by
  have h := Wd_rec (mw blk) 23 (by decide)
  simp only [Nat.reduceSub, wd7, wd8, wd16, wd21] at h
  exact h.trans (by decide +kernel)
theorem wd24 : Wd (mw blk) 24 = 2016606742#32 := by
  have h := Wd_rec (mw blk) 24 (by decide)
  simp only [Nat.reduceSub, wd8, wd9, wd17, wd22] at h
  exact h.trans (by decide +kernel)
theorem wd25 : Wd (mw blk) 25 = 2552920382#32 := by
  have h := Wd_rec (mw blk) 25 (by decide)
  simp only [Nat.reduceSub, wd9, wd10, wd18, wd23] at h
  exact h.trans (by decide +kernel)
theorem wd26 : Wd (mw blk) 26 = 920234164#32 := by
  have h := Wd_rec (mw blk) 26 (by decide)
  simp only [Nat.reduceSub, wd10, wd11, wd19, wd24] at h
  exact h.trans (by decide +kernel)
theorem wd27 : Wd (mw blk) 27 = 342078408#32 := by
  have h := Wd_rec (mw blk) 27 (by decide)
  simp only [Nat.reduceSub, wd11, wd12, wd20, wd25] at h
  exact h.trans (by decide +kernel)
theorem wd28 : Wd (mw blk) 28 = 26564982#32 := by
  have h := Wd_rec (mw blk) 28 (by decide)
  simp only [Nat.reduceSub, wd12, wd13, wd21, wd26] at h
  exact h.trans (by decide +kernel)
theorem wd29 : Wd (mw blk) 29 = 2003750122#32 := by
  have h := Wd_rec (mw blk) 29 (by decide)
  simp only [Nat.reduceSub, wd13, wd14, wd22, wd27] at h
  exact h.trans (by decide +kernel)
theorem wd30 : Wd (mw blk) 30 = 1602516765#32 := by
  have h := Wd_rec (mw blk) 30 (by decide)
  simp only [Nat.reduceSub, wd14, wd15, wd23, wd28] at h
  exact h.trans (by decide +kernel)
theorem wd31 : Wd (mw blk) 31 = 2066871560#32 := by
  have h := Wd_rec (mw blk) 31 (by decide)
  simp only [Nat.reduceSub, wd15, wd16, wd24, wd29] at h
  exact h.trans (by decide +kernel)
theorem wd32 : Wd (mw blk) 32 = 3388255968#32 := by
  have h := Wd_rec (mw blk) 32 (by decide)
  simp only [Nat.reduceSub, wd16, wd17, wd25, wd30] at h
  exact h.trans (by decide +kernel)
theorem wd33 : Wd (mw blk) 33 = 3495295836#32 := by
  have h := Wd_rec (mw blk) 33 (by decide)
  simp only [Nat.reduceSub, wd17, wd18, wd26, wd31] at h
  exact h.trans (by decide +kernel)
theorem wd34 : Wd (mw blk) 34 = 192534143#32 := by
  have h := Wd_rec (mw blk) 34 (by decide)
  simp only [Nat.reduceSub, wd18, wd19, wd27, wd32] at h
  exact h.trans (by decide +kernel)
theorem wd35 : Wd (mw blk) 35 = 2145414065#32 := by
  have h := Wd_rec (mw blk) 35 (by decide)
  simp only [Nat.reduceSub, wd19, wd20, wd28, wd33] at h
  exact h.trans (by decide +kernel)
theorem wd36 : Wd (mw blk) 36 = 659753927#32 := by
  have h := Wd_rec (mw blk) 36 (by decide)
  simp only [Nat.reduceSub, wd20, wd21, wd29, wd34] at h
  exact h.trans (by decide +kernel)
theorem wd37 : Wd (mw blk) 37 = 1021122539#32 := by
  have h := Wd_rec (mw blk) 37 (by decide)
  simp only [Nat.reduceSub, wd21, wd22, wd30, wd35] at h
  exact h.trans (by decide +kernel)
theorem wd38 : Wd (mw blk) 38 = 3550816106#32 := by
  have h := Wd_rec (mw blk) 38 (by decide)
  simp only [Nat.reduceSub, wd22, wd23, wd31, wd36] at h
  exact h.trans (by decide +kernel)
theorem wd39 : Wd (mw blk) 39 = 3885953875#32 := by
  have h := Wd_rec (mw blk) 39 (by decide)
  simp only [Nat.reduceSub, wd23, wd24, wd32, wd37] at h
  exact h.trans (by decide +kernel)
theorem wd40 : Wd (mw blk) 40 = 1886424640#32 := by
  have h := Wd_rec (mw blk) 40 (by decide)
  simp only [Nat.reduceSub, wd24, wd25, wd33, wd38] at h
  exact h.trans (by decide +kernel)
theorem wd41 : Wd (mw blk) 41 = 1345995822#32 := by
  have h := Wd_rec (mw blk) 41 (by decide)
  simp only [Nat.reduceSub, wd25, wd26, wd34, wd39] at h
  exact h.trans (by decide +kernel)
theorem wd42 : Wd (mw blk) 42 = 2349134464#32 := by
  have h := Wd_rec (mw blk) 42 (by decide)
  simp only [Nat.reduceSub, wd26, wd27, wd35, wd40] at h
  exact h.trans (by decide +kernel)
theorem wd43 : Wd (mw blk) 43 = 1621732883#32 := by
  have h := Wd_rec (mw blk) 43 (by decide)
  simp only [Nat.reduceSub, wd27, wd28, wd36, wd41] at h
  exact h.trans (by decide +kernel)
theorem wd44 : Wd (mw blk) 44 = 2397004286#32 := by
  have h := Wd_rec (mw blk) 44 (by decide)
  simp only [Nat.reduceSub, wd28, wd29, wd37, wd42] at h
  exact h.trans (by decide +kernel)
theorem wd45 : Wd (mw blk) 45 = 1517337706#32 := by
  have h := Wd_rec (mw blk) 45 (by decide)
  simp only [Nat.reduceSub, wd29, wd30, wd38, wd43] at h
  exact h.trans (by decide +kernel)
theorem wd46 : Wd (mw blk) 46 = 114872163#32 := by
  have h := Wd_rec (mw blk) 46 (by decide)
  simp only [Nat.reduceSub, wd30, wd31, wd39, wd44] at h
  exact h.trans (by decide +kernel)
theorem wd47 : Wd (mw blk) 47 = 677825693#32 := by
  have h := Wd_rec (mw blk) 47 (by decide)
  simp only [Nat.reduceSub, wd31, wd32, wd40, wd45] at h
  exact h.trans (by decide +kernel)
theorem wd48 : Wd (mw blk) 48 = 1980262682#32 := by
  have h := Wd_rec (mw blk) 48 (by decide)
  simp only [Nat.reduceSub, wd32, wd33, wd41, wd46] at h
  exact h.trans (by decide +kernel)
theorem wd49 : Wd (mw blk) 49 = 2803376677#32 := by
  have h := Wd_rec (mw blk) 49 (by decide)
  simp only [Nat.reduceSub, wd33, wd34, wd42, wd47] at h
  exact h.trans (by decide +kernel)
theorem wd50 : Wd (mw blk) 50 = 499584714#32 := by
  have h := Wd_rec (mw blk) 50 (by decide)
  simp only [Nat.reduceSub, wd34, wd35, wd43, wd48] at h
  exact h.trans (by decide +kernel)
theorem wd51 : Wd (mw blk) 51 = 1821670865#32 := by
  have h := Wd_rec (mw blk) 51 (by decide)
  simp only [Nat.reduceSub, wd35, wd36, wd44, wd49] at h
  exact h.trans (by decide +kernel)
theorem wd52 : Wd (mw blk) 52 = 2090327214#32 := by
  have h := Wd_rec (mw blk) 52 (by decide)
  simp only [Nat.reduceSub, wd36, wd37, wd45, wd50] at h
  exact h.trans (by decide +kernel)
theorem wd53 : Wd (mw blk) 53 = 2064187487#32 := by
  have h := Wd_rec (mw blk) 53 (by decide)
  simp only [Nat.reduceSub, wd37, wd38, wd46, wd51] at h
  exact h.trans (by decide +kernel)
theorem wd54 : Wd (mw blk) 54 = 433185440#32 := by
  have h := Wd_rec (mw blk) 54 (by decide)
  simp only [Nat.reduceSub, wd38, wd39, wd47, wd52] at h
  exact h.trans (by decide +kernel)
theorem wd55 : Wd (mw blk) 55 = 2875251162#32 := by
  have h := Wd_rec (mw blk) 55 (by decide)
  simp only [Nat.reduceSub, wd39, wd40, wd48, wd53] at h
  exact h.trans (by decide +kernel)
theorem wd56 : Wd (mw blk) 56 = 2889339922#32 := by
  have h := Wd_rec (mw blk) 56 (by decide)
  simp only [Nat.reduceSub, wd40, wd41, wd49, wd54] at h
  exact h.trans (by decide +kernel)
theorem wd57 : Wd (mw blk) 57 = 305586326#32 := by
  have h := Wd_rec (mw blk) 57 (by decide)
  simp only [Nat.reduceSub, wd41, wd42, wd50, wd55] at h
  exact h.trans (by decide +kernel)
theorem wd58 : Wd (mw blk) 58 = 1250573677#32 := by
  have h := Wd_rec (mw blk) 58 (by decide)
  simp only [Nat.reduceSub, wd42, wd43, wd51, wd56] at h
  exact h.trans (by decide +kernel)
theorem wd59 : Wd (mw blk) 59 = 3193488113#32 := by
  have h := Wd_rec (mw blk) 59 (by decide)
  simp only [Nat.reduceSub, wd43, wd44, wd52, wd57] at h
  exact h.trans (by decide +kernel)
theorem wd60 : Wd (mw blk) 60 = 1406300513#32 := by
  have h := Wd_rec (mw blk) 60 (by decide)
  simp only [Nat.reduceSub, wd44, wd45, wd53, wd58] at h
  exact h.trans (by decide +kernel)
theorem wd61 : Wd (mw blk) 61 = 3797583781#32 := by
  have h := Wd_rec (mw blk) 61 (by decide)
  simp only [Nat.reduceSub, wd45, wd46, wd54, wd59] at h
  exact h.trans (by decide +kernel)
theorem wd62 : Wd (mw blk) 62 = 3040706143#32 := by
  have h := Wd_rec (mw blk) 62 (by decide)
  simp only [Nat.reduceSub, wd46, wd47, wd55, wd60] at h
  exact h.trans (by decide +kernel)
theorem wd63 : Wd (mw blk) 63 = 136903913#32 := by
  have h := Wd_rec (mw blk) 63 (by decide)
  simp only [Nat.reduceSub, wd47, wd48, wd56, wd61] at h
  exact h.trans (by decide +kernel)
theorem go0 : St.go (Wd (mw blk)) ini 0 = ⟨246408149#32, 323038828#32, 1785343979#32, 758602444#32, 1369767239#32, 1840289256#32, 599761290#32, 1391542741#32⟩ := rfl
theorem go1 : St.go (Wd (mw blk)) ini 1 = ⟨4041579290#32, 246408149#32, 323038828#32, 1785343979#32, 824503369#32, 1369767239#32, 1840289256#32, 599761290#32⟩ := by
  rw [St.go, go0, wd0]
  exact St.eq_of (by decide +kernel)
theorem go2 : St.go (Wd (mw blk)) ini 2 = ⟨1959831309#32, 4041579290#32, 246408149#32, 323038828#32, 3654459763#32, 824503369#32, 1369767239#32, 1840289256#32⟩ := by
  rw [St.go, go1, wd1]
  exact St.eq_of (by decide +kernel)
theorem go3 : St.go (Wd (mw blk)) ini 3 = ⟨1043939947#32, 1959831309#32, 4041579290#32, 246408149#32, 3033600805#32, 3654459763#32, 824503369#32, 1369767239#32⟩ := by
  rw [St.go, go2, wd2]
  exact St.eq_of (by decide +kernel)
theorem go4 : St.go (Wd (mw blk)) ini 4 = ⟨993936809#32, 1043939947#32, 1959831309#32, 4041579290#32, 2602473675#32, 3033600805#32, 3654459763#32, 824503369#32⟩ := by
  rw [St.go, go3, wd3]
  exact St.eq_of (by decide +kernel)
theorem go5 : St.go (Wd (mw blk)) ini 5 = ⟨333847611#32, 993936809#32, 1043939947#32, 1959831309#32, 738362296#32, 2602473675#32, 3033600805#32, 3654459763#32⟩ := by
  rw [St.go, go4, wd4]
  exact St.eq_of (by decide +kernel)
theorem go6 : St.go (Wd (mw blk)) ini 6 = ⟨3411046379#32, 333847611#32, 993936809#32, 1043939947#32, 1200676444#32, 738362296#32, 2602473675#32, 3033600805#32⟩ := by
  rw [St.go, go5, wd5]
  exact St.eq_of (by decide +kernel)
theorem go7 : St.go (Wd (mw blk)) ini 7 = ⟨313318587#32, 3411046379#32, 333847611#32, 993936809#32, 1765401383#32, 1200676444#32, 738362296#32, 2602473675#32⟩ := by
  rw [St.go, go6, wd6]
  exact St.eq_of (by decide +kernel)
theorem go8 : St.go (Wd (mw blk)) ini 8 = ⟨1561690836#32, 313318587#32, 3411046379#32, 333847611#32, 4067302848#32, 1765401383#32, 1200676444#32, 738362296#32⟩ := by
  rw [St.go, go7, wd7]
  exact St.eq_of (by decide +kernel)
theorem go9 : St.go (Wd (mw blk)) ini 9 = ⟨698199969#32, 1561690836#32, 313318587#32, 3411046379#32, 2323784564#32, 4067302848#32, 1765401383#32, 1200676444#32⟩ := by
  rw [St.go, go8, wd8]
  exact St.eq_of (by decide +kernel)
theorem go10 : St.go (Wd (mw blk)) ini 10 = ⟨2523467648#32, 698199969#32, 1561690836#32, 313318587#32, 105598231#32, 2323784564#32, 4067302848#32, 1765401383#32⟩ := by
  rw [St.go, go9, wd9]
  exact St.eq_of (by decide +kernel)
theorem go11 : St.go (Wd (mw blk)) ini 11 = ⟨1974430984#32, 2523467648#32, 698199969#32, 1561690836#32, 1839056722#32, 105598231#32, 2323784564#32, 4067302848#32⟩ := by
  rw [St.go, go10, wd10]
  exact St.eq_of (by decide +kernel)
theorem go12 : St.go (Wd (mw blk)) ini 12 = ⟨954725819#32, 1974430984#32, 2523467648#32, 698199969#32, 2545152288#32, 1839056722#32, 105598231#32, 2323784564#32⟩ := by
  rw [St.go, go11, wd11]
  exact St.eq_of (by decide +kernel)
theorem go13 : St.go (Wd (mw blk)) ini 13 = ⟨3019193386#32, 954725819#32, 1974430984#32, 2523467648#32, 2892801937#32, 2545152288#32, 1839056722#32, 105598231#32⟩ := by
  rw [St.go, go12, wd12]
  exact St.eq_of (by decide +kernel)
theorem go14 : St.go (Wd (mw blk)) ini 14 = ⟨2599669705#32, 3019193386#32, 954725819#32, 1974430984#32, 1713170355#32, 2892801937#32, 2545152288#32, 1839056722#32⟩ := by
  rw [St.go, go13, wd13]
  exact St.eq_of (by decide +kernel)
theorem go15 : St.go (Wd (mw blk)) ini 15 = ⟨2272784109#32, 2599669705#32, 3019193386#32, 954725819#32, 1784699971#32, 1713170355#32, 2892801937#32, 2545152288#32⟩ := by
  rw [St.go, go14, wd14]
  exact St.eq_of (by decide +kernel)
theorem go16 : St.go (Wd (mw blk)) ini 16 = ⟨1380589304#32, 2272784109#32, 2599669705#32, 3019193386#32, 774877105#32, 1784699971#32, 1713170355#32, 2892801937#32⟩ := by
  rw [St.go, go15, wd15]
  exact St.eq_of (by decide +kernel)
theorem go17 : St.go (Wd (mw blk)) ini 17 = ⟨1789921736#32, 1380589304#32, 2272784109#32, 2599669705#32, 3238363746#32, 774877105#32, 1784699971#32, 1713170355#32⟩ := by
  rw [St.go, go16, wd16]
  exact St.eq_of (by decide +kernel)
theorem go18 : St.go (Wd (mw blk)) ini 18 = ⟨190670283#32, 1789921736#32, 1380589304#32, 2272784109#32, 3474370644#32, 3238363746#32, 774877105#32, 1784699971#32⟩ := by
  rw [St.go, go17, wd17]
  exact St.eq_of (by decide +kernel)
theorem go19 : St.go (Wd (mw blk)) ini 19 = ⟨4147611726#32, 190670283#32, 1789921736#32, 1380589304#32, 2604612031#32, 3474370644#32, 3238363746#32, 774877105#32⟩ := by
  rw [St.go, go18, wd18]
  exact St.eq_of (by decide +kernel)
theorem go20 : St.go (Wd (mw blk)) ini 20 = ⟨346577901#32, 4147611726#32, 190670283#32, 1789921736#32, 3659665576#32, 2604612031#32, 3474370644#32, 3238363746#32⟩ := by
  rw [St.go, go19, wd19]
  exact St.eq_of (by decide +kernel)
theorem go21 : St.go (Wd (mw blk)) ini 21 = ⟨684746798#32, 346577901#32, 4147611726#32, 190670283#32, 1091969084#32, 3659665576#32, 2604612031#32, 3474370644#32⟩ := by
  rw [St.go, go20, wd20]
  exact St.eq_of (by decide +kernel)
theorem go22 : St.go (Wd (mw blk)) ini 22 = ⟨1362955583#32, 684746798#32, 346577901#32, 4147611726#32, 2634303089#32, 1091969084#32, 3659665576#32, 2604612031#32⟩ := by
  rw [St.go, go21, wd21]
  exact St.eq_of (by decide +kernel)
theorem go23 : St.go (Wd (mw blk)) ini 23 = ⟨3884628829#32, 1362955583#32, 684746798#32, 346577901#32, 2223555225#32, 2634303089#32, 1091969084#32, 3659665576#32⟩ := by
  rw [St.go, go22, wd22]
  exact St.eq_of (by decide +kernel)
theorem go24 : St.go (Wd (mw blk)) ini 24 = ⟨3390953963#32, 3884628829#32, 1362955583#32, 684746798#32, 4081919869#32, 2223555225#32, 2634303089#32, 1091969084#32⟩ := by
  rw [St.go, go23, wd23]
  exact St.eq_of (by decide +kernel)
theorem go25 : St.go (Wd (mw blk)) ini 25 = ⟨2857153720#32, 3390953963#32, 3884628829#32, 1362955583#32, 3309369771#32, 4081919869#32, 2223555225#32, 2634303089#32⟩ := by
  rw [St.go, go24, wd24]
  exact St.eq_of (by decide +kernel)
theorem go26 : St.go (Wd (mw blk)) ini 26 = ⟨2160820043#32, 2857153720#32, 3390953963#32, 3884628829#32, 712455343#32, 3309369771#32, 4081919869#32, 2223555225#32⟩ := by
  rw [St.go, go25, wd25]
  exact St.eq_of (by decide +kernel)
theorem go27 : St.go (Wd (mw blk)) ini 27 = ⟨291930662#32, 2160820043#32, 2857153720#32, 3390953963#32, 923748366#32, 712455343#32, 3309369771#32, 4081919869#32⟩ := by
  rw [St.go, go26, wd26]
  exact St.eq_of (by decide +kernel)
theorem go28 : St.go (Wd (mw blk)) ini 28 = ⟨4156641967#32, 291930662#32, 2160820043#32, 2857153720#32, 841925240#32, 923748366#32, 712455343#32, 3309369771#32⟩ := by
  rw [St.go, go27, wd27]
  exact St.eq_of (by decide +kernel)
theorem go29 : St.go (Wd (mw blk)) ini 29 = ⟨2152611352#32, 4156641967#32, 291930662#32, 2160820043#32, 722619171#32, 841925240#32, 923748366#32, 712455343#32⟩ := by
  rw [St.go, go28, wd28]
  exact St.eq_of (by decide +kernel)
theorem go30 : St.go (Wd (mw blk)) ini 30 = ⟨2298450464#32, 2152611352#32, 4156641967#32, 291930662#32, 2421493575#32, 722619171#32, 841925240#32, 923748366#32⟩ := by
  rw [St.go, go29, wd29]
  exact St.eq_of (by decide +kernel)
theorem go31 : St.go (Wd (mw blk)) ini 31 = ⟨1779441290#32, 2298450464#32, 2152611352#32, 4156641967#32, 2905894193#32, 2421493575#32, 722619171#32, 841925240#32⟩ := by
  rw [St.go, go30, wd30]
  exact St.eq_of (by decide +kernel)
theorem go32 : St.go (Wd (mw blk)) ini 32 = ⟨4116937835#32, 1779441290#32, 2298450464#32, 2152611352#32, 907621000#32, 2905894193#32, 2421493575#32, 722619171#32⟩ := by
  rw [St.go, go31, wd31]
  exact St.eq_of (by decide +kernel)
theorem go33 : St.go (Wd (mw blk)) ini 33 = ⟨3133411268#32, 4116937835#32, 1779441290#32, 2298450464#32, 3198702558#32, 907621000#32, 2905894193#32, 2421493575#32⟩ := by
  rw [St.go, go32, wd32]
  exact St.eq_of (by decide +kernel)
theorem go34 : St.go (Wd (mw blk)) ini 34 = ⟨1439886242#32, 3133411268#32, 4116937835#32, 1779441290#32, 2749798334#32, 3198702558#32, 907621000#32, 2905894193#32⟩ := by
  rw [St.go, go33, wd33]
  exact St.eq_of (by decide +kernel)
theorem go35 : St.go (Wd (mw blk)) ini 35 = ⟨875506737#32, 1439886242#32, 3133411268#32, 4116937835#32, 615792049#32, 2749798334#32, 3198702558#32, 907621000#32⟩ := by
  rw [St.go, go34, wd34]
  exact St.eq_of (by decide +kernel)
theorem go36 : St.go (Wd (mw blk)) ini 36 = ⟨2977923186#32, 875506737#32, 1439886242#32, 3133411268#32, 3790216856#32, 615792049#32, 2749798334#32, 3198702558#32⟩ := by
  rw [St.go, go35, wd35]
  exact St.eq_of (by decide +kernel)
theorem go37 : St.go (Wd (mw blk)) ini 37 = ⟨982160207#32, 2977923186#32, 875506737#32, 1439886242#32, 1845713340#32, 3790216856#32, 615792049#32, 2749798334#32⟩ := by
  rw [St.go, go36, wd36]
  exact St.eq_of (by decide +kernel)
theorem go38 : St.go (Wd (mw blk)) ini 38 = ⟨776132375#32, 982160207#32, 2977923186#32, 875506737#32, 3578787289#32, 1845713340#32, 3790216856#32, 615792049#32⟩ := by
  rw [St.go, go37, wd37]
  exact St.eq_of (by decide +kernel)
theorem go39 : St.go (Wd (mw blk)) ini 39 = ⟨219493221#32, 776132375#32, 982160207#32, 2977923186#32, 2391027925#32, 3578787289#32, 1845713340#32, 3790216856#32⟩ := by
  rw [St.go, go38, wd38]
  exact St.eq_of (by decide +kernel)
theorem go40 : St.go (Wd (mw blk)) ini 40 = ⟨154773110#32, 219493221#32, 776132375#32, 982160207#32, 1434461#32, 2391027925#32, 3578787289#32, 1845713340#32⟩ := by
  rw [St.go, go39, wd39]
  exact St.eq_of (by decide +kernel)
theorem go41 : St.go (Wd (mw blk)) ini 41 = ⟨3494752526#32, 154773110#32, 219493221#32, 776132375#32, 2791216242#32, 1434461#32, 2391027925#32, 3578787289#32⟩ := by
  rw [St.go, go40, wd40]
  exact St.eq_of (by decide +kernel)
theorem go42 : St.go (Wd (mw blk)) ini 42 = ⟨1434473164#32, 3494752526#32, 154773110#32, 219493221#32, 1879286030#32, 2791216242#32, 1434461#32, 2391027925#32⟩ := by
  rw [St.go, go41, wd41]
  exact St.eq_of (by decide +kernel)
theorem go43 : St.go (Wd (mw blk)) ini 43 = ⟨3927783189#32, 1434473164#32, 3494752526#32, 154773110#32, 601828933#32, 1879286030#32, 2791216242#32, 1434461#32⟩ := by
  rw [St.go, go42, wd42]
  exact St.eq_of (by decide +kernel)
theorem go44 : St.go (Wd (mw blk)) ini 44 = ⟨2263692966#32, 3927783189#32, 1434473164#32, 3494752526#32, 153444236#32, 601828933#32, 1879286030#32, 2791216242#32⟩ := by
  rw [St.go, go43, wd43]
  exact St.eq_of (by decide +kernel)
theorem go45 : St.go (Wd (mw blk)) ini 45 = ⟨835066815#32, 2263692966#32, 3927783189#32, 1434473164#32, 2603660654#32, 153444236#32, 601828933#32, 1879286030#32⟩ := by
  rw [St.go, go44, wd44]
  exact St.eq_of (by decide +kernel)
theorem go46 : St.go (Wd (mw blk)) ini 46 = ⟨127255046#32, 835066815#32, 2263692966#32, 3927783189#32, 2959206659#32, 2603660654#32, 153444236#32, 601828933#32⟩ := by
  rw [St.go, go45, wd45]
  exact St.eq_of (by decide +kernel)
theorem go47 : St.go (Wd (mw blk)) ini 47 = ⟨2765118419#32, 127255046#32, 835066815#32, 2263692966#32, 3226151953#32, 2959206659#32, 2603660654#32, 153444236#32⟩ := by
  rw [St.go, go46, wd46]
  exact St.eq_of (by decide +kernel)
theorem go48 : St.go (Wd (mw blk)) ini 48 = ⟨1521651129#32, 2765118419#32, 127255046#32, 835066815#32, 1157949923#32, 3226151953#32, 2959206659#32, 2603660654#32⟩ := by
  rw [St.go, go47, wd47]
  exact St.eq_of (by decide +kernel)
theorem go49 : St.go (Wd (mw blk)) ini 49 = ⟨1177069914#32, 1521651129#32, 2765118419#32, 127255046#32, 2148361718#32, 1157949923#32, 3226151953#32, 2959206659#32⟩ := by
  rw [St.go, go48, wd48]
  exact St.eq_of (by decide +kernel)
theorem go50 : St.go (Wd (mw blk)) ini 50 = ⟨3641224308#32, 1177069914#32, 1521651129#32, 2765118419#32, 535851668#32, 2148361718#32, 1157949923#32, 3226151953#32⟩ := by
  rw [St.go, go49, wd49]
  exact St.eq_of (by decide +kernel)
theorem go51 : St.go (Wd (mw blk)) ini 51 = ⟨295890845#32, 3641224308#32, 1177069914#32, 1521651129#32, 3841289660#32, 535851668#32, 2148361718#32, 1157949923#32⟩ := by
  rw [St.go, go50, wd50]
  exact St.eq_of (by decide +kernel)
theorem go52 : St.go (Wd (mw blk)) ini 52 = ⟨778242746#32, 295890845#32, 3641224308#32, 1177069914#32, 2226038881#32, 3841289660#32, 535851668#32, 2148361718#32⟩ := by
  rw [St.go, go51, wd51]
  exact St.eq_of (by decide +kernel)
theorem go53 : St.go (Wd (mw blk)) ini 53 = ⟨514978188#32, 778242746#32, 295890845#32, 3641224308#32, 4183069467#32, 2226038881#32, 3841289660#32, 535851668#32⟩ := by
  rw [St.go, go52, wd52]
  exact St.eq_of (by decide +kernel)
theorem go54 : St.go (Wd (mw blk)) ini 54 = ⟨2147132470#32, 514978188#32, 778242746#32, 295890845#32, 3998526328#32, 4183069467#32, 2226038881#32, 3841289660#32⟩ := by
  rw [St.go, go53, wd53]
  exact St.eq_of (by decide +kernel)
theorem go55 : St.go (Wd (mw blk)) ini 55 = ⟨2116350456#32, 2147132470#32, 514978188#32, 778242746#32, 4227248560#32, 3998526328#32, 4183069467#32, 2226038881#32⟩ := by
  rw [St.go, go54, wd54]
  exact St.eq_of (by decide +kernel)
theorem go56 : St.go (Wd (mw blk)) ini 56 = ⟨326709299#32, 2116350456#32, 2147132470#32, 514978188#32, 3214810256#32, 4227248560#32, 3998526328#32, 4183069467#32⟩ := by
  rw [St.go, go55, wd55]
  exact St.eq_of (by decide +kernel)
theorem go57 : St.go (Wd (mw blk)) ini 57 = ⟨1457073595#32, 326709299#32, 2116350456#32, 2147132470#32, 1418482573#32, 3214810256#32, 4227248560#32, 3998526328#32⟩ := by
  rw [St.go, go56, wd56]
  exact St.eq_of (by decide +kernel)
theorem go58 : St.go (Wd (mw blk)) ini 58 = ⟨1867794770#32, 1457073595#32, 326709299#32, 2116350456#32, 3153832657#32, 1418482573#32, 3214810256#32, 4227248560#32⟩ := by
  rw [St.go, go57, wd57]
  exact St.eq_of (by decide +kernel)
theorem go59 : St.go (Wd (mw blk)) ini 59 = ⟨2560606515#32, 1867794770#32, 1457073595#32, 326709299#32, 1057515693#32, 3153832657#32, 1418482573#32, 3214810256#32⟩ := by
  rw [St.go, go58, wd58]
  exact St.eq_of (by decide +kernel)
theorem go60 : St.go (Wd (mw blk)) ini 60 = ⟨2606167869#32, 2560606515#32, 1867794770#32, 1457073595#32, 3207783277#32, 1057515693#32, 3153832657#32, 1418482573#32⟩ := by
  rw [St.go, go59, wd59]
  exact St.eq_of (by decide +kernel)
theorem go61 : St.go (Wd (mw blk)) ini 61 = ⟨3680377595#32, 2606167869#32, 2560606515#32, 1867794770#32, 301659758#32, 3207783277#32, 1057515693#32, 3153832657#32⟩ := by
  rw [St.go, go60, wd60]
  exact St.eq_of (by decide +kernel)
theorem go62 : St.go (Wd (mw blk)) ini 62 = ⟨4288279611#32, 3680377595#32, 2606167869#32, 2560606515#32, 2049750831#32, 301659758#32, 3207783277#32, 1057515693#32⟩ := by
  rw [St.go, go61, wd61]
  exact St.eq_of (by decide +kernel)
theorem go63 : St.go (Wd (mw blk)) ini 63 = ⟨2887730914#32, 4288279611#32, 3680377595#32, 2606167869#32, 796304283#32, 2049750831#32, 301659758#32, 3207783277#32⟩ := by
  rw [St.go, go62, wd62]
  exact St.eq_of (by decide +kernel)
theorem go64 : St.go (Wd (mw blk)) ini 64 = ⟨1294785905#32, 2887730914#32, 4288279611#32, 3680377595#32, 140198337#32, 796304283#32, 2049750831#32, 301659758#32⟩ := by
  rw [St.go, go63, wd63]
  exact St.eq_of (by decide +kernel)
def fin : St := ⟨1541194054#32, 3210769742#32, 1778656294#32, 144012743#32, 1509965576#32, 2636593539#32, 2649512121#32, 1693202499#32⟩
theorem comp_is : St.comp (Wd (mw blk)) ini = fin := by
  rw [St.comp, go64]
  exact St.eq_of (by decide +kernel)
end K4
end Rd
end Go.Proofs.YthojdcmkajmdjaaDoor

namespace Go.Proofs.YthojdcmkajmdjaaDoor
open Go.RowKit
open Rd Dg Hx
/-- a key's bytes, noughts behind them, up to sixty-four -/
def padB (k : ByteArray) : List UInt8 := (List.range 64).map (bt k ·)
theorem padB_length (k : ByteArray) : (padB k).length = 64 := by simp [padB]
theorem padB_is (k : ByteArray) (h : k.size ≤ 64) : padB k = k.data.toList ++ List.replicate (64 - k.size) 0 := by
  have hl : k.data.toList.length = k.size := by rw [Array.length_toList]; rfl
  apply List.ext_getElem?
  intro i
  by_cases hi : i < 64
  · have e : (padB k)[i]? = some (bt k i) := by simp [padB, hi]
    rw [e]
    by_cases hk : i < k.size
    · rw [List.getElem?_append_left (by omega), List.getElem?_eq_getElem (by omega), bt_in k i hk]; rfl
    · rw [List.getElem?_append_right (by omega), bt_out k i hk, List.getElem?_replicate_of_lt (by omega)]
  · rw [List.getElem?_eq_none (by rw [padB_length]; omega), List.getElem?_eq_none (by rw [List.length_append, List.length_replicate, hl]; omega)]
/-- a key, or its sum -/
def key64 (k : ByteArray) : ByteArray := if 64 < k.size then dig k.data.toList else k
theorem dig_size (m : List UInt8) : (dig m).size = 32 := by
  show (St.by (stOf (m ++ endL m.length) ((m ++ endL m.length).length / 64)) 8).toArray.size = 32
  simp [by_length]
theorem key64_le (k : ByteArray) : (key64 k).size ≤ 64 := by
  unfold key64
  split
  · rw [dig_size]; omega
  · omega
/-- a text's tag under a key -/
def hmac (k s : ByteArray) : ByteArray := dig ((padB (key64 k)).map (· ^^^ 92) ++ (dig ((padB (key64 k)).map (· ^^^ 54) ++ s.data.toList)).data.toList)
theorem hmac_size (k s : ByteArray) : (hmac k s).size = 32 := dig_size _
namespace Jefe
def k : ByteArray := ⟨#[74, 101, 102, 101]⟩
def s : ByteArray := ⟨#[119, 104, 97, 116, 32, 100, 111, 32, 121, 97, 32, 119, 97, 110, 116, 32, 102, 111, 114, 32, 110, 111, 116, 104, 105, 110, 103, 63]⟩
def m1 : List UInt8 := [124, 83, 80, 83, 54, 54, 54, 54, 54, 54, 54, 54, 54, 54, 54, 54, 54, 54, 54, 54, 54, 54, 54, 54, 54, 54, 54, 54, 54, 54, 54, 54, 54, 54, 54, 54, 54, 54, 54, 54, 54, 54, 54, 54, 54, 54, 54, 54, 54, 54, 54, 54, 54, 54, 54, 54, 54, 54, 54, 54, 54, 54, 54, 54, 119, 104, 97, 116, 32, 100, 111, 32, 121, 97, 32, 119, 97, 110, 116, 32, 102, 111, 114, 32, 110, 111, 116, 104, 105, 110, 103, 63]
def m2 : List UInt8 := [22, 57, 58, 57, 92, 92, 92, 92, 92, 92, 92, 92, 92, 92, 92, 92, 92, 92, 92, 92, 92, 92, 92, 92, 92, 92, 92, 92, 92, 92, 92, 92, 92, 92, 92, 92, 92, 92, 92, 92, 92, 92, 92, 92, 92, 92, 92, 92, 92, 92, 92, 92, 92, 92, 92, 92, 92, 92, 92, 92, 92, 92, 92, 92, 162, 228, 133, 134, 61, 39, 249, 216, 100, 172, 141, 128, 36, 50, 161, 237, 71, 125, 140, 76, 111, 52, 157, 22, 212, 231, 233, 23, 198, 41, 202, 215]
def inner : ByteArray := ⟨#[162, 228, 133, 134, 61, 39, 249, 216, 100, 172, 141, 128, 36, 50, 161, 237, 71, 125, 140, 76, 111, 52, 157, 22, 212, 231, 233, 23, 198, 41, 202, 215]⟩
def tag : ByteArray := ⟨#[91, 220, 193, 70, 191, 96, 117, 78, 106, 4, 36, 38, 8, 149, 117, 199, 90, 0, 63, 8, 157, 39, 57, 131, 157, 236, 88, 185, 100, 236, 56, 67]⟩
theorem key_is : key64 k = k := by unfold key64; rw [if_neg (by decide)]
theorem in_is : (padB k).map (· ^^^ 54) ++ s.data.toList = m1 := by decide +kernel
theorem out_is : (padB k).map (· ^^^ 92) ++ inner.data.toList = m2 := by decide +kernel
theorem two (m : List UInt8) (b0 b1 : ByteArray) (i0 f0 f1 : St) (hl : (m ++ endL m.length).length / 64 = 0 + 1 + 1) (h0 : blkB (m ++ endL m.length) 0 = b0) (h1 : blkB (m ++ endL m.length) (0 + 1) = b1)
    (hi : F0 = i0) (c0 : St.comp (Wd (mw b0)) i0 = f0) (c1 : St.comp (Wd (mw b1)) f0 = f1) : dig m = ⟨(St.by f1 8).toArray⟩ := by
  unfold dig
  rw [hl, stOf, stOf, stOf, h0, h1, hi, c0, c1]
theorem dig1 : dig m1 = inner := by
  rw [two m1 K1.blk K2.blk K1.ini K1.fin K2.fin (by decide +kernel) (by decide +kernel) (by decide +kernel) rfl K1.comp_is K2.comp_is]
  decide +kernel
theorem dig2 : dig m2 = tag := by
  rw [two m2 K3.blk K4.blk K3.ini K3.fin K4.fin (by decide +kernel) (by decide +kernel) (by decide +kernel) rfl K3.comp_is K4.comp_is]
  decide +kernel
theorem tag_is : hmac k s = tag := by
  unfold hmac
  rw [key_is, in_is, dig1, out_is, dig2]
theorem hex8 : (hexL tag.data.toList).take 8 = [53, 98, 100, 99, 99, 49, 52, 54] := by decide +kernel
theorem size : tag.size = 32 := by decide +kernel
theorem not_ma : tag ≠ ⟨#[77, 97]⟩ := by decide +kernel
theorem un1 : unL [52, 100, 54, 49] = some [77, 97] := by decide +kernel
theorem un2 : unL [52, 68] = none := by decide +kernel
theorem un3 : unL [52] = none := by decide +kernel
end Jefe
end Go.Proofs.YthojdcmkajmdjaaDoor
