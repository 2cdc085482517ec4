/- The block of the text ab with its end makes of the first state the known one. Conditions: none; nothing of the program is run here. -/
import Derived.Test.YtjimpfcgcbbipaaDoorAbc
namespace Go.Proofs.YtjimpfcgcbbipaaDoor
namespace Rd
namespace Ab
def ab : ByteArray := ⟨#[97, 98, 128, 0, 0, 0, 0, 0, 0, 0, 0, 0, 0, 0, 0, 0, 0, 0, 0, 0, 0, 0, 0, 0, 0, 0, 0, 0, 0, 0, 0, 0, 0, 0, 0, 0, 0, 0, 0, 0, 0, 0, 0, 0, 0, 0, 0, 0, 0, 0, 0, 0, 0, 0, 0, 0, 0, 0, 0, 0, 0, 0, 0, 16]⟩
theorem wd0 : Wd (mw ab) 0 = 1633845248#32 := (Wd_low _ _ (by decide)).trans (by decide +kernel)
theorem wd1 : Wd (mw ab) 1 = 0#32 := (Wd_low _ _ (by decide)).trans (by decide +kernel)
theorem wd2 : Wd (mw ab) 2 = 0#32 := (Wd_low _ _ (by decide)).trans (by decide +kernel)
theorem wd3 : Wd (mw ab) 3 = 0#32 := (Wd_low _ _ (by decide)).trans (by decide +kernel)
theorem wd4 : Wd (mw ab) 4 = 0#32 := (Wd_low _ _ (by decide)).trans (by decide +kernel)
theorem wd5 : Wd (mw ab) 5 = 0#32 := (Wd_low _ _ (by decide)).trans (by decide +kernel)
theorem wd6 : Wd (mw ab) 6 = 0#32 := (Wd_low _ _ (by decide)).trans (by decide +kernel)
theorem wd7 : Wd (mw ab) 7 = 0#32 := (Wd_low _ _ (by decide)).trans (by decide +kernel)
theorem wd8 : Wd (mw ab) 8 = 0#32 := (Wd_low _ _ (by decide)).trans (by decide +kernel)
theorem wd9 : Wd (mw ab) 9 = 0#32 := (Wd_low _ _ (by decide)).trans (by decide +kernel)
theorem wd10 : Wd (mw ab) 10 = 0#32 := (Wd_low _ _ (by decide)).trans (by decide +kernel)
theorem wd11 : Wd (mw ab) 11 = 0#32 := (Wd_low _ _ (by decide)).trans (by decide +kernel)
theorem wd12 : Wd (mw ab) 12 = 0#32 := (Wd_low _ _ (by decide)).trans (by decide +kernel)
theorem wd13 : Wd (mw ab) 13 = 0#32 := (Wd_low _ _ (by decide)).trans (by decide +kernel)
theorem wd14 : Wd (mw ab) 14 = 0#32 := (Wd_low _ _ (by decide)).trans (by decide +kernel)
theorem wd15 : Wd (mw ab) 15 = 16#32 := (Wd_low _ _ (by decide)).trans (by decide +kernel)
theorem wd16 : Wd (mw ab) 16 = 1633845248#32 := by
  have h := Wd_rec (mw ab) 16 (by decide)
  simp only [Nat.reduceSub, wd0, wd1, wd9, wd14] at h
  exact h.trans (by decide +kernel)
theorem wd17 : Wd (mw ab) 17 = 655360#32 := by
  have h := Wd_rec (mw ab) 17 (by decide)
  simp only [Nat.reduceSub, wd1, wd2, wd10, wd15] at h
  exact h.trans (by decide +kernel)
theorem wd18 : Wd (mw ab) 18 = 270033981#32 := by
  have h := Wd_rec (mw ab) 18 (by decide)
  simp only [Nat.reduceSub, wd2, wd3, wd11, wd16] at h
  exact h.trans (by decide +kernel)
theorem wd19 : Wd (mw ab) 19 = 1073742468#32 := by
  have h := Wd_rec (mw ab) 19 (by decide)
  simp only [Nat.reduceSub, wd3, wd4, wd12, wd17] at h
  exact h.trans (by decide +kernel)
theorem wd20 : Wd (mw ab) 20 = 1050487830#32 := by
  have h := Wd_rec (mw ab) 20 (by decide)
  simp only [Nat.reduceSub, wd4, wd5, wd13, wd18] at h
  exact h.trans (by decide +kernel)
theorem wd21 : Wd (mw ab) 21 = 16951296#32 := by
  have h := Wd_rec (mw ab) 21 (by decide)
  simp only [Nat.reduceSub, wd5, wd6, wd14, wd19] at h
  exact h.trans (by decide +kernel)
theorem wd22 : Wd (mw ab) 22 = 864452582#32 := by
  have h := Wd_rec (mw ab) 22 (by decide)
  simp only [Nat.reduceSub, wd6, wd7, wd15, wd20] at h
  exact h.trans (by decide +kernel)
theorem wd23 : Wd (mw ab) 23 = 1650638859#32 := by
  have h := Wd_rec (mw ab) 23 (by decide)
  simp only [Nat.reduceSub, wd7, wd8, wd16, wd21] at h
  exact h.trans (by decide +kernel)
theorem wd24 : Wd (mw ab) 24 = 4027399724#32 := by
  have h := Wd_rec (mw ab) 24 (by decide)
  simp only [Nat.reduceSub, wd8, wd9, wd17, wd22] at h
  exact h.trans (by decide +kernel)
theorem wd25 : Wd (mw ab) 25 = 1211410954#32 := by
  have h := Wd_rec (mw ab) 25 (by decide)
  simp only [Nat.reduceSub, wd9, wd10, wd18, wd23] at h
  exact h.trans (by decide +kernel)
theorem wd26 : Wd (mw ab) 26 = 2028988364#32 := by
  have h := Wd_rec (mw ab) 26 (by decide)
  simp only [Nat.reduceSub, wd10, wd11, wd19, wd24] at h
  exact h.trans (by decide +kernel)
theorem wd27 : Wd (mw ab) 27 = 4277374028#32 := by
  have h := Wd_rec (mw ab) 27 (by decide)
  simp only [Nat.reduceSub, wd11, wd12, wd20, wd25] at h
  exact h.trans (by decide +kernel)
theorem wd28 : Wd (mw ab) 28 = 268710035#32 := by
  have h := Wd_rec (mw ab) 28 (by decide)
  simp only [Nat.reduceSub, wd12, wd13, wd21, wd26] at h
  exact h.trans (by decide +kernel)
theorem wd29 : Wd (mw ab) 29 = 3944143914#32 := by
  have h := Wd_rec (mw ab) 29 (by decide)
  simp only [Nat.reduceSub, wd13, wd14, wd22, wd27] at h
  exact h.trans (by decide +kernel)
theorem wd30 : Wd (mw ab) 30 = 549890843#32 := by
  have h := Wd_rec (mw ab) 30 (by decide)
  simp only [Nat.reduceSub, wd14, wd15, wd23, wd28] at h
  exact h.trans (by decide +kernel)
theorem wd31 : Wd (mw ab) 31 = 1386658034#32 := by
  have h := Wd_rec (mw ab) 31 (by decide)
  simp only [Nat.reduceSub, wd15, wd16, wd24, wd29] at h
  exact h.trans (by decide +kernel)
theorem wd32 : Wd (mw ab) 32 = 2860467165#32 := by
  have h := Wd_rec (mw ab) 32 (by decide)
  simp only [Nat.reduceSub, wd16, wd17, wd25, wd30] at h
  exact h.trans (by decide +kernel)
theorem wd33 : Wd (mw ab) 33 = 1704602302#32 := by
  have h := Wd_rec (mw ab) 33 (by decide)
  simp only [Nat.reduceSub, wd17, wd18, wd26, wd31] at h
  exact h.trans (by decide +kernel)
theorem wd34 : Wd (mw ab) 34 = 1491927166#32 := by
  have h := Wd_rec (mw ab) 34 (by decide)
  simp only [Nat.reduceSub, wd18, wd19, wd27, wd32] at h
  exact h.trans (by decide +kernel)
theorem wd35 : Wd (mw ab) 35 = 12639368#32 := by
  have h := Wd_rec (mw ab) 35 (by decide)
  simp only [Nat.reduceSub, wd19, wd20, wd28, wd33] at h
  exact h.trans (by decide +kernel)
theorem wd36 : Wd (mw ab) 36 = 4093457531#32 := by
  have h := Wd_rec (mw ab) 36 (by decide)
  simp only [Nat.reduceSub, wd20, wd21, wd29, wd34] at h
  exact h.trans (by decide +kernel)
theorem wd37 : Wd (mw ab) 37 = 3985429324#32 := by
  have h := Wd_rec (mw ab) 37 (by decide)
  simp only [Nat.reduceSub, wd21, wd22, wd30, wd35] at h
  exact h.trans (by decide +kernel)
theorem wd38 : Wd (mw ab) 38 = 1833301693#32 := by
  have h := Wd_rec (mw ab) 38 (by decide)
  simp only [Nat.reduceSub, wd22, wd23, wd31, wd36] at h
  exact h.trans (by decide +kernel)
theorem wd39 : Wd (mw ab) 39 = 155258341#32 := by
  have h := Wd_rec (mw ab) 39 (by decide)
  simp only [Nat.reduceSub, wd23, wd24, wd32, wd37] at h
  exact h.trans (by decide +kernel)
theorem wd40 : Wd (mw ab) 40 = 3528335737#32 := by
  have h := Wd_rec (mw ab) 40 (by decide)
  simp only [Nat.reduceSub, wd24, wd25, wd33, wd38] at h
  exact h.trans (by decide +kernel)
theorem wd41 : Wd (mw ab) 41 = 3062717792#32 := by
  have h := Wd_rec (mw ab) 41 (by decide)
  simp only [Nat.reduceSub, wd25, wd26, wd34, wd39] at h
  exact h.trans (by decide +kernel)
theorem wd42 : Wd (mw ab) 42 = 3012079207#32 := by
  have h := Wd_rec (mw ab) 42 (by decide)
  simp only [Nat.reduceSub, wd26, wd27, wd35, wd40] at h
  exact h.trans (by decide +kernel)
theorem wd43 : Wd (mw ab) 43 = 539425273#32 := by
  have h := Wd_rec (mw ab) 43 (by decide)
  simp only [Nat.reduceSub, wd27, wd28, wd36, wd41] at h
  exact h.trans (by decide +kernel)
theorem wd44 : Wd (mw ab) 44 = 1076043381#32 := by
  have h := Wd_rec (mw ab) 44 (by decide)
  simp only [Nat.reduceSub, wd28, wd29, wd37, wd42] at h
  exact h.trans (by decide +kernel)
theorem wd45 : Wd (mw ab) 45 = 2496143508#32 := by
  have h := Wd_rec (mw ab) 45 (by decide)
  simp only [Nat.reduceSub, wd29, wd30, wd38, wd43] at h
  exact h.trans (by decide +kernel)
theorem wd46 : Wd (mw ab) 46 = 1471727768#32 := by
  have h := Wd_rec (mw ab) 46 (by decide)
  simp only [Nat.reduceSub, wd30, wd31, wd39, wd44] at h
  exact h.trans (by decide +kernel)
theorem wd47 : Wd (mw ab) 47 = 3093250499#32 := by
  have h := Wd_rec (mw ab) 47 (by decide)
  simp only [Nat.reduceSub, wd31, wd32, wd40, wd45] at h
  exact h.trans (by decide +kernel)
theorem wd48 : Wd (mw ab) 48 = 3643758778#32 := by
  have h := Wd_rec (mw ab) 48 (by decide)
  simp only [Nat.reduceSub, wd32, wd33, wd41, wd46] at h
  exact h.trans (by decide +kernel)
theorem wd49 : Wd (mw ab) 49 = 432964173#32 := by
  have h := Wd_rec (mw ab) 49 (by decide)
  simp only [Nat.reduceSub, wd33, wd34, wd42, wd47] at h
  exact h.trans (by decide +kernel)
theorem wd50 : Wd (mw ab) 50 = 3888910579#32 := by
  have h := Wd_rec (mw ab) 50 (by decide)
  simp only [Nat.reduceSub, wd34, wd35, wd43, wd48] at h
  exact h.trans (by decide +kernel)
theorem wd51 : Wd (mw ab) 51 = 1993602963#32 := by
  have h := Wd_rec (mw ab) 51 (by decide)
  simp only [Nat.reduceSub, wd35, wd36, wd44, wd49] at h
  exact h.trans (by decide +kernel)
theorem wd52 : Wd (mw ab) 52 = 3286075862#32 := by
  have h := Wd_rec (mw ab) 52 (by decide)
  simp only [Nat.reduceSub, wd36, wd37, wd45, wd50] at h
  exact h.trans (by decide +kernel)
theorem wd53 : Wd (mw ab) 53 = 3578358685#32 := by
  have h := Wd_rec (mw ab) 53 (by decide)
  simp only [Nat.reduceSub, wd37, wd38, wd46, wd51] at h
  exact h.trans (by decide +kernel)
theorem wd54 : Wd (mw ab) 54 = 600467822#32 := by
  have h := Wd_rec (mw ab) 54 (by decide)
  simp only [Nat.reduceSub, wd38, wd39, wd47, wd52] at h
  exact h.trans (by decide +kernel)
theorem wd55 : Wd (mw ab) 55 = 3702232564#32 := by
  have h := Wd_rec (mw ab) 55 (by decide)
  simp only [Nat.reduceSub, wd39, wd40, wd48, wd53] at h
  exact h.trans (by decide +kernel)
theorem wd56 : Wd (mw ab) 56 = 3868419969#32 := by
  have h := Wd_rec (mw ab) 56 (by decide)
  simp only [Nat.reduceSub, wd40, wd41, wd49, wd54] at h
  exact h.trans (by decide +kernel)
theorem wd57 : Wd (mw ab) 57 = 1230845418#32 := by
  have h := Wd_rec (mw ab) 57 (by decide)
  simp only [Nat.reduceSub, wd41, wd42, wd50, wd55] at h
  exact h.trans (by decide +kernel)
theorem wd58 : Wd (mw ab) 58 = 1369500673#32 := by
  have h := Wd_rec (mw ab) 58 (by decide)
  simp only [Nat.reduceSub, wd42, wd43, wd51, wd56] at h
  exact h.trans (by decide +kernel)
theorem wd59 : Wd (mw ab) 59 = 1165505681#32 := by
  have h := Wd_rec (mw ab) 59 (by decide)
  simp only [Nat.reduceSub, wd43, wd44, wd52, wd57] at h
  exact h.trans (by decide +kernel)
theorem wd60 : Wd (mw ab) 60 = 3029804626#32 := by
  have h := Wd_rec (mw ab) 60 (by decide)
  simp only [Nat.reduceSub, wd44, wd45, wd53, wd58] at h
  exact h.trans (by decide +kernel)
theorem wd61 : Wd (mw ab) 61 = 3722238860#32 := by
  have h := Wd_rec (mw ab) 61 (by decide)
  simp only [Nat.reduceSub, wd45, wd46, wd54, wd59] at h
  exact h.trans (by decide +kernel)
theorem wd62 : Wd (mw ab) 62 = 3963502664#32 := by
  have h := Wd_rec (mw ab) 62 (by decide)
  simp only [Nat.reduceSub, wd46, wd47, wd55, wd60] at h
  exact h.trans (by decide +kernel)
theorem wd63 : Wd (mw ab) 63 = 1311518612#32 := by
  have h := Wd_rec (mw ab) 63 (by decide)
  simp only [Nat.reduceSub, wd47, wd48, wd56, wd61] at h
  exact h.trans (by decide +kernel)
theorem go0 : St.go (Wd (mw ab)) F0 0 = ⟨1779033703#32, 3144134277#32, 1013904242#32, 2773480762#32, 1359893119#32, 2600822924#32, 528734635#32, 1541459225#32⟩ := rfl
theorem go1 : St.go (Wd (mw ab)) F0 1 = ⟨1567295565#32, 1779033703#32, 3144134277#32, 1013904242#32, 4197081762#32, 1359893119#32, 2600822924#32, 528734635#32⟩ := by
  rw [St.go, go0, wd0]
  exact St.eq_of (by decide +kernel)
theorem go2 : St.go (Wd (mw ab)) F0 2 = ⟨3771592872#32, 1567295565#32, 1779033703#32, 3144134277#32, 3904903575#32, 4197081762#32, 1359893119#32, 2600822924#32⟩ := by
  rw [St.go, go1, wd1]
  exact St.eq_of (by decide +kernel)
theorem go3 : St.go (Wd (mw ab)) F0 3 = ⟨1244149001#32, 3771592872#32, 1567295565#32, 1779033703#32, 311372123#32, 3904903575#32, 4197081762#32, 1359893119#32⟩ := by
  rw [St.go, go2, wd2]
  exact St.eq_of (by decide +kernel)
theorem go4 : St.go (Wd (mw ab)) F0 4 = ⟨3332301780#32, 1244149001#32, 3771592872#32, 1567295565#32, 2385191175#32, 311372123#32, 3904903575#32, 4197081762#32⟩ := by
  rw [St.go, go3, wd3]
  exact St.eq_of (by decide +kernel)
theorem go5 : St.go (Wd (mw ab)) F0 5 = ⟨3636599127#32, 3332301780#32, 1244149001#32, 3771592872#32, 521228548#32, 2385191175#32, 311372123#32, 3904903575#32⟩ := by
  rw [St.go, go4, wd4]
  exact St.eq_of (by decide +kernel)
theorem go6 : St.go (Wd (mw ab)) F0 6 = ⟨151833283#32, 3636599127#32, 3332301780#32, 1244149001#32, 3932515056#32, 521228548#32, 2385191175#32, 311372123#32⟩ := by
  rw [St.go, go5, wd5]
  exact St.eq_of (by decide +kernel)
theorem go7 : St.go (Wd (mw ab)) F0 7 = ⟨3520778562#32, 151833283#32, 3636599127#32, 3332301780#32, 2885927810#32, 3932515056#32, 521228548#32, 2385191175#32⟩ := by
  rw [St.go, go6, wd6]
  exact St.eq_of (by decide +kernel)
theorem go8 : St.go (Wd (mw ab)) F0 8 = ⟨2655857540#32, 3520778562#32, 151833283#32, 3636599127#32, 905708628#32, 2885927810#32, 3932515056#32, 521228548#32⟩ := by
  rw [St.go, go7, wd7]
  exact St.eq_of (by decide +kernel)
theorem go9 : St.go (Wd (mw ab)) F0 9 = ⟨4057219706#32, 2655857540#32, 3520778562#32, 151833283#32, 3794789662#32, 905708628#32, 2885927810#32, 3932515056#32⟩ := by
  rw [St.go, go8, wd8]
  exact St.eq_of (by decide +kernel)
theorem go10 : St.go (Wd (mw ab)) F0 10 = ⟨3376610011#32, 4057219706#32, 2655857540#32, 3520778562#32, 29887585#32, 3794789662#32, 905708628#32, 2885927810#32⟩ := by
  rw [St.go, go9, wd9]
  exact St.eq_of (by decide +kernel)
theorem go11 : St.go (Wd (mw ab)) F0 11 = ⟨4181491042#32, 3376610011#32, 4057219706#32, 2655857540#32, 3261941830#32, 29887585#32, 3794789662#32, 905708628#32⟩ := by
  rw [St.go, go10, wd10]
  exact St.eq_of (by decide +kernel)
theorem go12 : St.go (Wd (mw ab)) F0 12 = ⟨1858790193#32, 4181491042#32, 3376610011#32, 4057219706#32, 1863726812#32, 3261941830#32, 29887585#32, 3794789662#32⟩ := by
  rw [St.go, go11, wd11]
  exact St.eq_of (by decide +kernel)
theorem go13 : St.go (Wd (mw ab)) F0 13 = ⟨199566772#32, 1858790193#32, 4181491042#32, 3376610011#32, 2864275867#32, 1863726812#32, 3261941830#32, 29887585#32⟩ := by
  rw [St.go, go12, wd12]
  exact St.eq_of (by decide +kernel)
theorem go14 : St.go (Wd (mw ab)) F0 14 = ⟨371626581#32, 199566772#32, 1858790193#32, 4181491042#32, 3081593237#32, 2864275867#32, 1863726812#32, 3261941830#32⟩ := by
  rw [St.go, go13, wd13]
  exact St.eq_of (by decide +kernel)
theorem go15 : St.go (Wd (mw ab)) F0 15 = ⟨1479292645#32, 371626581#32, 199566772#32, 1858790193#32, 4112109337#32, 3081593237#32, 2864275867#32, 1863726812#32⟩ := by
  rw [St.go, go14, wd14]
  exact St.eq_of (by decide +kernel)
theorem go16 : St.go (Wd (mw ab)) F0 16 = ⟨1686594463#32, 1479292645#32, 371626581#32, 199566772#32, 1731442211#32, 4112109337#32, 3081593237#32, 2864275867#32⟩ := by
  rw [St.go, go15, wd15]
  exact St.eq_of (by decide +kernel)
theorem go17 : St.go (Wd (mw ab)) F0 17 = ⟨3808100401#32, 1686594463#32, 1479292645#32, 371626581#32, 3261428162#32, 1731442211#32, 4112109337#32, 3081593237#32⟩ := by
  rw [St.go, go16, wd16]
  exact St.eq_of (by decide +kernel)
theorem go18 : St.go (Wd (mw ab)) F0 18 = ⟨377016914#32, 3808100401#32, 1686594463#32, 1479292645#32, 918499731#32, 3261428162#32, 1731442211#32, 4112109337#32⟩ := by
  rw [St.go, go17, wd17]
  exact St.eq_of (by decide +kernel)
theorem go19 : St.go (Wd (mw ab)) F0 19 = ⟨3565255831#32, 377016914#32, 3808100401#32, 1686594463#32, 3513426526#32, 918499731#32, 3261428162#32, 1731442211#32⟩ := by
  rw [St.go, go18, wd18]
  exact St.eq_of (by decide +kernel)
theorem go20 : St.go (Wd (mw ab)) F0 20 = ⟨1319397705#32, 3565255831#32, 377016914#32, 3808100401#32, 3351631961#32, 3513426526#32, 918499731#32, 3261428162#32⟩ := by
  rw [St.go, go19, wd19]
  exact St.eq_of (by decide +kernel)
theorem go21 : St.go (Wd (mw ab)) F0 21 = ⟨2383999480#32, 1319397705#32, 3565255831#32, 377016914#32, 2452434827#32, 3351631961#32, 3513426526#32, 918499731#32⟩ := by
  rw [St.go, go20, wd20]
  exact St.eq_of (by decide +kernel)
theorem go22 : St.go (Wd (mw ab)) F0 22 = ⟨2905686982#32, 2383999480#32, 1319397705#32, 3565255831#32, 631500222#32, 2452434827#32, 3351631961#32, 3513426526#32⟩ := by
  rw [St.go, go21, wd21]
  exact St.eq_of (by decide +kernel)
theorem go23 : St.go (Wd (mw ab)) F0 23 = ⟨3243406427#32, 2905686982#32, 2383999480#32, 1319397705#32, 2536336219#32, 631500222#32, 2452434827#32, 3351631961#32⟩ := by
  rw [St.go, go22, wd22]
  exact St.eq_of (by decide +kernel)
theorem go24 : St.go (Wd (mw ab)) F0 24 = ⟨3796629245#32, 3243406427#32, 2905686982#32, 2383999480#32, 2290349548#32, 2536336219#32, 631500222#32, 2452434827#32⟩ := by
  rw [St.go, go23, wd23]
  exact St.eq_of (by decide +kernel)
theorem go25 : St.go (Wd (mw ab)) F0 25 = ⟨3487408536#32, 3796629245#32, 3243406427#32, 2905686982#32, 2617050184#32, 2290349548#32, 2536336219#32, 631500222#32⟩ := by
  rw [St.go, go24, wd24]
  exact St.eq_of (by decide +kernel)
theorem go26 : St.go (Wd (mw ab)) F0 26 = ⟨94234649#32, 3487408536#32, 3796629245#32, 3243406427#32, 2780545362#32, 2617050184#32, 2290349548#32, 2536336219#32⟩ := by
  rw [St.go, go25, wd25]
  exact St.eq_of (by decide +kernel)
theorem go27 : St.go (Wd (mw ab)) F0 27 = ⟨1156166818#32, 94234649#32, 3487408536#32, 3796629245#32, 3360626021#32, 2780545362#32, 2617050184#32, 2290349548#32⟩ := by
  rw [St.go, go26, wd26]
  exact St.eq_of (by decide +kernel)
theorem go28 : St.go (Wd (mw ab)) F0 28 = ⟨3480678056#32, 1156166818#32, 94234649#32, 3487408536#32, 3639247255#32, 3360626021#32, 2780545362#32, 2617050184#32⟩ := by
  rw [St.go, go27, wd27]
  exact St.eq_of (by decide +kernel)
theorem go29 : St.go (Wd (mw ab)) F0 29 = ⟨1546931861#32, 3480678056#32, 1156166818#32, 94234649#32, 1223860325#32, 3639247255#32, 3360626021#32, 2780545362#32⟩ := by
  rw [St.go, go28, wd28]
  exact St.eq_of (by decide +kernel)
theorem go30 : St.go (Wd (mw ab)) F0 30 = ⟨1331118160#32, 1546931861#32, 3480678056#32, 1156166818#32, 367170130#32, 1223860325#32, 3639247255#32, 3360626021#32⟩ := by
  rw [St.go, go29, wd29]
  exact St.eq_of (by decide +kernel)
theorem go31 : St.go (Wd (mw ab)) F0 31 = ⟨1207172810#32, 1331118160#32, 1546931861#32, 3480678056#32, 4044388681#32, 367170130#32, 1223860325#32, 3639247255#32⟩ := by
  rw [St.go, go30, wd30]
  exact St.eq_of (by decide +kernel)
theorem go32 : St.go (Wd (mw ab)) F0 32 = ⟨3627086696#32, 1207172810#32, 1331118160#32, 1546931861#32, 2950343182#32, 4044388681#32, 367170130#32, 1223860325#32⟩ := by
  rw [St.go, go31, wd31]
  exact St.eq_of (by decide +kernel)
theorem go33 : St.go (Wd (mw ab)) F0 33 = ⟨546573902#32, 3627086696#32, 1207172810#32, 1331118160#32, 3201109086#32, 2950343182#32, 4044388681#32, 367170130#32⟩ := by
  rw [St.go, go32, wd32]
  exact St.eq_of (by decide +kernel)
theorem go34 : St.go (Wd (mw ab)) F0 34 = ⟨473520161#32, 546573902#32, 3627086696#32, 1207172810#32, 2154977910#32, 3201109086#32, 2950343182#32, 4044388681#32⟩ := by
  rw [St.go, go33, wd33]
  exact St.eq_of (by decide +kernel)
theorem go35 : St.go (Wd (mw ab)) F0 35 = ⟨1887836829#32, 473520161#32, 546573902#32, 3627086696#32, 1021545293#32, 2154977910#32, 3201109086#32, 2950343182#32⟩ := by
  rw [St.go, go34, wd34]
  exact St.eq_of (by decide +kernel)
theorem go36 : St.go (Wd (mw ab)) F0 36 = ⟨1946675235#32, 1887836829#32, 473520161#32, 546573902#32, 2332314153#32, 1021545293#32, 2154977910#32, 3201109086#32⟩ := by
  rw [St.go, go35, wd35]
  exact St.eq_of (by decide +kernel)
theorem go37 : St.go (Wd (mw ab)) F0 37 = ⟨2034328568#32, 1946675235#32, 1887836829#32, 473520161#32, 2719171134#32, 2332314153#32, 1021545293#32, 2154977910#32⟩ := by
  rw [St.go, go36, wd36]
  exact St.eq_of (by decide +kernel)
theorem go38 : St.go (Wd (mw ab)) F0 38 = ⟨2892689888#32, 2034328568#32, 1946675235#32, 1887836829#32, 1417702456#32, 2719171134#32, 2332314153#32, 1021545293#32⟩ := by
  rw [St.go, go37, wd37]
  exact St.eq_of (by decide +kernel)
theorem go39 : St.go (Wd (mw ab)) F0 39 = ⟨1769691782#32, 2892689888#32, 2034328568#32, 1946675235#32, 1306867109#32, 1417702456#32, 2719171134#32, 2332314153#32⟩ := by
  rw [St.go, go38, wd38]
  exact St.eq_of (by decide +kernel)
theorem go40 : St.go (Wd (mw ab)) F0 40 = ⟨3972128353#32, 1769691782#32, 2892689888#32, 2034328568#32, 1414974918#32, 1306867109#32, 1417702456#32, 2719171134#32⟩ := by
  rw [St.go, go39, wd39]
  exact St.eq_of (by decide +kernel)
theorem go41 : St.go (Wd (mw ab)) F0 41 = ⟨1653937629#32, 3972128353#32, 1769691782#32, 2892689888#32, 1612974288#32, 1414974918#32, 1306867109#32, 1417702456#32⟩ := by
  rw [St.go, go40, wd40]
  exact St.eq_of (by decide +kernel)
theorem go42 : St.go (Wd (mw ab)) F0 42 = ⟨1432415604#32, 1653937629#32, 3972128353#32, 1769691782#32, 4141964346#32, 1612974288#32, 1414974918#32, 1306867109#32⟩ := by
  rw [St.go, go41, wd41]
  exact St.eq_of (by decide +kernel)
theorem go43 : St.go (Wd (mw ab)) F0 43 = ⟨2720816116#32, 1432415604#32, 1653937629#32, 3972128353#32, 2845218806#32, 4141964346#32, 1612974288#32, 1414974918#32⟩ := by
  rw [St.go, go42, wd42]
  exact St.eq_of (by decide +kernel)
theorem go44 : St.go (Wd (mw ab)) F0 44 = ⟨3022584952#32, 2720816116#32, 1432415604#32, 1653937629#32, 4169443278#32, 2845218806#32, 4141964346#32, 1612974288#32⟩ := by
  rw [St.go, go43, wd43]
  exact St.eq_of (by decide +kernel)
theorem go45 : St.go (Wd (mw ab)) F0 45 = ⟨3264630472#32, 3022584952#32, 2720816116#32, 1432415604#32, 63171240#32, 4169443278#32, 2845218806#32, 4141964346#32⟩ := by
  rw [St.go, go44, wd44]
  exact St.eq_of (by decide +kernel)
theorem go46 : St.go (Wd (mw ab)) F0 46 = ⟨3788923304#32, 3264630472#32, 3022584952#32, 2720816116#32, 1966230554#32, 63171240#32, 4169443278#32, 2845218806#32⟩ := by
  rw [St.go, go45, wd45]
  exact St.eq_of (by decide +kernel)
theorem go47 : St.go (Wd (mw ab)) F0 47 = ⟨1072399976#32, 3788923304#32, 3264630472#32, 3022584952#32, 2496479254#32, 1966230554#32, 63171240#32, 4169443278#32⟩ := by
  rw [St.go, go46, wd46]
  exact St.eq_of (by decide +kernel)
theorem go48 : St.go (Wd (mw ab)) F0 48 = ⟨2364285374#32, 1072399976#32, 3788923304#32, 3264630472#32, 3399227669#32, 2496479254#32, 1966230554#32, 63171240#32⟩ := by
  rw [St.go, go47, wd47]
  exact St.eq_of (by decide +kernel)
theorem go49 : St.go (Wd (mw ab)) F0 49 = ⟨3021842557#32, 2364285374#32, 1072399976#32, 3788923304#32, 2860269664#32, 3399227669#32, 2496479254#32, 1966230554#32⟩ := by
  rw [St.go, go48, wd48]
  exact St.eq_of (by decide +kernel)
theorem go50 : St.go (Wd (mw ab)) F0 50 = ⟨296396287#32, 3021842557#32, 2364285374#32, 1072399976#32, 3729271561#32, 2860269664#32, 3399227669#32, 2496479254#32⟩ := by
  rw [St.go, go49, wd49]
  exact St.eq_of (by decide +kernel)
theorem go51 : St.go (Wd (mw ab)) F0 51 = ⟨1724366874#32, 296396287#32, 3021842557#32, 2364285374#32, 3506490391#32, 3729271561#32, 2860269664#32, 3399227669#32⟩ := by
  rw [St.go, go50, wd50]
  exact St.eq_of (by decide +kernel)
theorem go52 : St.go (Wd (mw ab)) F0 52 = ⟨2305248929#32, 1724366874#32, 296396287#32, 3021842557#32, 1533091901#32, 3506490391#32, 3729271561#32, 2860269664#32⟩ := by
  rw [St.go, go51, wd51]
  exact St.eq_of (by decide +kernel)
theorem go53 : St.go (Wd (mw ab)) F0 53 = ⟨1261157241#32, 2305248929#32, 1724366874#32, 296396287#32, 1928495236#32, 1533091901#32, 3506490391#32, 3729271561#32⟩ := by
  rw [St.go, go52, wd52]
  exact St.eq_of (by decide +kernel)
theorem go54 : St.go (Wd (mw ab)) F0 54 = ⟨3240460378#32, 1261157241#32, 2305248929#32, 1724366874#32, 1601898865#32, 1928495236#32, 1533091901#32, 3506490391#32⟩ := by
  rw [St.go, go53, wd53]
  exact St.eq_of (by decide +kernel)
theorem go55 : St.go (Wd (mw ab)) F0 55 = ⟨3883034754#32, 3240460378#32, 1261157241#32, 2305248929#32, 1618254821#32, 1601898865#32, 1928495236#32, 1533091901#32⟩ := by
  rw [St.go, go54, wd54]
  exact St.eq_of (by decide +kernel)
theorem go56 : St.go (Wd (mw ab)) F0 56 = ⟨3189420121#32, 3883034754#32, 3240460378#32, 1261157241#32, 1341434994#32, 1618254821#32, 1601898865#32, 1928495236#32⟩ := by
  rw [St.go, go55, wd55]
  exact St.eq_of (by decide +kernel)
theorem go57 : St.go (Wd (mw ab)) F0 57 = ⟨1248977900#32, 3189420121#32, 3883034754#32, 3240460378#32, 652264656#32, 1341434994#32, 1618254821#32, 1601898865#32⟩ := by
  rw [St.go, go56, wd56]
  exact St.eq_of (by decide +kernel)
theorem go58 : St.go (Wd (mw ab)) F0 58 = ⟨3428054140#32, 1248977900#32, 3189420121#32, 3883034754#32, 3566533041#32, 652264656#32, 1341434994#32, 1618254821#32⟩ := by
  rw [St.go, go57, wd57]
  exact St.eq_of (by decide +kernel)
theorem go59 : St.go (Wd (mw ab)) F0 59 = ⟨2940877708#32, 3428054140#32, 1248977900#32, 3189420121#32, 3913631457#32, 3566533041#32, 652264656#32, 1341434994#32⟩ := by
  rw [St.go, go58, wd58]
  exact St.eq_of (by decide +kernel)
theorem go60 : St.go (Wd (mw ab)) F0 60 = ⟨2411834110#32, 2940877708#32, 3428054140#32, 1248977900#32, 2687410524#32, 3913631457#32, 3566533041#32, 652264656#32⟩ := by
  rw [St.go, go59, wd59]
  exact St.eq_of (by decide +kernel)
theorem go61 : St.go (Wd (mw ab)) F0 61 = ⟨822279815#32, 2411834110#32, 2940877708#32, 3428054140#32, 4185995498#32, 2687410524#32, 3913631457#32, 3566533041#32⟩ := by
  rw [St.go, go60, wd60]
  exact St.eq_of (by decide +kernel)
theorem go62 : St.go (Wd (mw ab)) F0 62 = ⟨1341247529#32, 822279815#32, 2411834110#32, 2940877708#32, 964681381#32, 4185995498#32, 2687410524#32, 3913631457#32⟩ := by
  rw [St.go, go61, wd61]
  exact St.eq_of (by decide +kernel)
theorem go63 : St.go (Wd (mw ab)) F0 63 = ⟨1927581855#32, 1341247529#32, 822279815#32, 2411834110#32, 4235600577#32, 964681381#32, 4185995498#32, 2687410524#32⟩ := by
  rw [St.go, go62, wd62]
  exact St.eq_of (by decide +kernel)
theorem go64 : St.go (Wd (mw ab)) F0 64 = ⟨2441362069#32, 1927581855#32, 1341247529#32, 822279815#32, 3814999612#32, 4235600577#32, 964681381#32, 4185995498#32⟩ := by
  rw [St.go, go63, wd63]
  exact St.eq_of (by decide +kernel)
theorem comp_ab : St.comp (Wd (mw ab)) F0 = ⟨4220395772#32, 776748836#32, 2355151771#32, 3595760577#32, 879925435#32, 2541456205#32, 1493416016#32, 1432487427#32⟩ := by
  rw [St.comp, go64]
  exact St.eq_of (by decide +kernel)
end Ab
end Rd
end Go.Proofs.YtjimpfcgcbbipaaDoor
