/- The first sixteen words of a schedule tell its block: the statement RoundsWhole holds for every text. Conditions: those of the statement alone. -/
import Derived.Test.YtohekmioeifpfaaDoorDoor
import Derived.Test.YtohekmioeifpfaaDoorShown
import Derived.Test.YtohekmioeifpfaaDoorLawLib
import Derived.Test.YtohekmioeifpfaaDoorTell
import Derived.Test.YtohekmioeifpfaaDoorCut
import Derived.StillTailTactics
import Derived.Deep.RegionHeld
import Derived.Deep.RegionWith
import Derived.Deep.DrawnRows
import Derived.Deep.DeepCutAuto
import Derived.Deep.QuietTactic
import Derived.BigQuiet
import Derived.WalkKit
import Derived.WalkLawsBesides
import Derived.WalkSpells
import Derived.Outline
import Derived.Lib.Hide
namespace Go.Proofs.YtohekmioeifpfaaDoor
open Go.ChangeShapes Go.WideShapes Go.ChangeAt Go.RowKit
open Go.ChangeMaps (open_string shut_string)
open Rd

attribute [local go_sem ↓] Go.wp_at_zero Go.wp_at_succ
theorem cv4 (w : World) (b0 b1 b2 b3 : UInt8) : (convert 40 9 (.slice (some ⟨w.heap.size, 0, none⟩) 4 4)).run Tryd.prog (w.alloc (.cells #[.int .u8 (b0.toNat : Int), .int .u8 (b1.toNat : Int), .int .u8 (b2.toNat : Int), .int .u8 (b3.toNat : Int)] 5)) = .ok (.string ⟨#[b0, b1, b2, b3]⟩) (w.alloc (.cells #[.int .u8 (b0.toNat : Int), .int .u8 (b1.toNat : Int), .int .u8 (b2.toNat : Int), .int .u8 (b3.toNat : Int)] 5)) :=
  cvBytes [b0, b1, b2, b3] _ w.heap.size 4 rfl (heap_alloc_new w _)
set_option maxRecDepth 100000 in
set_option maxHeartbeats 1000000 in
theorem walkWholeBad (s : ByteArray) (hs : (cutB s).size ≠ 64) (w : World) {a0 a1 : Addr} {B : Nat} (E : Env a0 a1 B w) :
    Calls Tryd.prog 7 #[.string s] w fun e w' => e = .returned (.bool true) ∧ Below w.heap.size w w' := by
  have HE := Lib.hid E
  have HS := Lib.hid hs
  have HI := Lib.hid (show (((cutB s).size : Int) != 64) = true by rw [bne_iff_ne]; omega)
  clear E hs
  go_enter Tryd.func7, Tryd.ntmps7
  go_wp2_with fail
  refine (shown_any _ HE.out).mono ?_
  rintro e w1 ⟨rfl, hb1⟩
  have HB1 := Lib.hid hb1
  clear hb1
  go_wp2_with fail
  refine (cut_any s _).mono ?_
  rintro e w2 ⟨rfl, rfl⟩
  go_wp2_with fail
  refine (Schedule_bad (cutB s) HS.out _ (HE.out.below' HB1.out)).mono ?_
  rintro e w3 ⟨rfl, rfl⟩
  go_wp2
  go_ret
  exact ⟨by show Ending.returned (Value.bool (((cutB s).size : Int) != 64)) = _; rw [HI.out], HB1.out⟩
theorem cv4d (w : World) (b0 b1 b2 b3 : UInt8) : (convert 40 9 (.slice (some ⟨w.heap.size, 0, none⟩) 4 4)).run Tryd.prog (w.alloc (.cells #[.int .u8 (b0.toNat : Int), .int .u8 (b1.toNat : Int), .int .u8 (b2.toNat : Int), .int .u8 (b3.toNat : Int)] 5)).drew = .ok (.string ⟨#[b0, b1, b2, b3]⟩) (w.alloc (.cells #[.int .u8 (b0.toNat : Int), .int .u8 (b1.toNat : Int), .int .u8 (b2.toNat : Int), .int .u8 (b3.toNat : Int)] 5)).drew :=
  cvBytes [b0, b1, b2, b3] _ w.heap.size 4 rfl (heap_alloc_new w _)
theorem u8_wrap (n : Int) (b : UInt8) (h : n % 256 = (b.toNat : Int)) : IntKind.u8.wrap n = (b.toNat : Int) := by
  rw [← h]
  rfl
theorem q24 (x : BitVec 32) : IntKind.u8.wrap (IntKind.i64.wrap ((U x).tdiv 16777216)) = ((lo8 (x >>> 24)).toNat : Int) := by
  have h1 := U_nonneg x; have h2 := U_lt x
  apply u8_wrap
  rw [Int.tdiv_eq_ediv_of_nonneg h1, show IntKind.i64.wrap (U x / 16777216) = U x / 16777216 by rw [IntWalk.i64_left]; unfold wrap64; omega]
  exact div24 x
theorem q16 (x : BitVec 32) : IntKind.u8.wrap ((IntKind.i64.wrap ((U x).tdiv 65536)).tmod 256) = ((lo8 (x >>> 16)).toNat : Int) := by
  have h1 := U_nonneg x; have h2 := U_lt x
  apply u8_wrap
  rw [Int.tdiv_eq_ediv_of_nonneg h1, show IntKind.i64.wrap (U x / 65536) = U x / 65536 by rw [IntWalk.i64_left]; unfold wrap64; omega, Int.tmod_eq_emod_of_nonneg (by omega), Int.emod_emod_of_dvd _ (by decide)]
  exact div16 x
theorem q8 (x : BitVec 32) : IntKind.u8.wrap ((IntKind.i64.wrap ((U x).tdiv 256)).tmod 256) = ((lo8 (x >>> 8)).toNat : Int) := by
  have h1 := U_nonneg x; have h2 := U_lt x
  apply u8_wrap
  rw [Int.tdiv_eq_ediv_of_nonneg h1, show IntKind.i64.wrap (U x / 256) = U x / 256 by rw [IntWalk.i64_left]; unfold wrap64; omega, Int.tmod_eq_emod_of_nonneg (by omega), Int.emod_emod_of_dvd _ (by decide)]
  exact div8 x
theorem q0 (x : BitVec 32) : IntKind.u8.wrap ((U x).tmod 256) = ((lo8 x).toNat : Int) := by
  have h1 := U_nonneg x; have h2 := U_lt x
  apply u8_wrap
  rw [Int.tmod_eq_emod_of_nonneg (by omega), Int.emod_emod_of_dvd _ (by decide)]
  exact mod_lo8 x
/-- what the statement has put together by a turn -/
def Pre (b : ByteArray) : Nat → ByteArray
  | 0 => ⟨#[]⟩
  | k + 1 => Pre b k ++ ⟨#[lo8 (mw b k >>> 24), lo8 (mw b k >>> 16), lo8 (mw b k >>> 8), lo8 (mw b k)]⟩
theorem Pre_size (b : ByteArray) (k : Nat) : (Pre b k).size = 4 * k := by
  induction k with
  | zero => rfl
  | succ k ih =>
    show (Pre b k ++ _).size = _
    rw [ByteArray.size_append, ih]
    show 4 * k + 4 = _
    omega
theorem B8_bit (b : UInt8) (i : Nat) (hi : i < 32) : (B8 b).getLsbD i = b.toBitVec.getLsbD i := by
  unfold B8
  rw [BitVec.getLsbD_ofNat]
  simp [hi]
  rfl
theorem bit_hi (b : UInt8) (i : Nat) (hi : 8 ≤ i) : b.toBitVec.getLsbD i = false := BitVec.getLsbD_of_ge _ _ hi
theorem lo8_eq (x : BitVec 32) (b : UInt8) (h : ∀ i, i < 8 → x.getLsbD i = b.toBitVec.getLsbD i) : lo8 x = b := by
  apply UInt8.toBitVec_inj.1
  apply BitVec.eq_of_getLsbD_eq
  intro i hi
  rw [← h i hi]
  show (BitVec.ofNat 8 x.toNat).getLsbD i = _
  simp [hi]
theorem lo24 (b0 b1 b2 b3 : UInt8) : lo8 (W4 b0 b1 b2 b3 >>> 24) = b0 := by
  apply lo8_eq
  intro i hi
  simp only [W4, BitVec.getLsbD_ushiftRight, BitVec.getLsbD_or, BitVec.getLsbD_shiftLeft]
  rw [B8_bit b0 _ (by omega), B8_bit b1 _ (by omega), B8_bit b2 _ (by omega), B8_bit b3 _ (by omega), bit_hi b1 _ (by omega), bit_hi b2 _ (by omega), bit_hi b3 _ (by omega)]
  rw [show 24 + i - 24 = i by omega]
  simp; omega
theorem lo16 (b0 b1 b2 b3 : UInt8) : lo8 (W4 b0 b1 b2 b3 >>> 16) = b1 := by
  apply lo8_eq
  intro i hi
  simp only [W4, BitVec.getLsbD_ushiftRight, BitVec.getLsbD_or, BitVec.getLsbD_shiftLeft]
  rw [B8_bit b1 _ (by omega), B8_bit b2 _ (by omega), B8_bit b3 _ (by omega), bit_hi b2 _ (by omega), bit_hi b3 _ (by omega)]
  rw [show 16 + i - 16 = i by omega, show decide (16 + i < 24) = true by simp; omega]
  simp; omega
theorem lo88 (b0 b1 b2 b3 : UInt8) : lo8 (W4 b0 b1 b2 b3 >>> 8) = b2 := by
  apply lo8_eq
  intro i hi
  simp only [W4, BitVec.getLsbD_ushiftRight, BitVec.getLsbD_or, BitVec.getLsbD_shiftLeft]
  rw [B8_bit b2 _ (by omega), B8_bit b3 _ (by omega), bit_hi b3 _ (by omega)]
  rw [show 8 + i - 8 = i by omega, show decide (8 + i < 24) = true by simp; omega, show decide (8 + i < 16) = true by simp; omega]
  simp; omega
theorem lo00 (b0 b1 b2 b3 : UInt8) : lo8 (W4 b0 b1 b2 b3) = b3 := by
  apply lo8_eq
  intro i hi
  simp only [W4, BitVec.getLsbD_or, BitVec.getLsbD_shiftLeft]
  rw [B8_bit b3 _ (by omega)]
  rw [show decide (i < 24) = true by simp; omega, show decide (i < 16) = true by simp; omega, show decide (i < 8) = true by simp; omega]
  simp
theorem by4_mw (b : ByteArray) (k : Nat) (h : 4 * k + 3 < b.size) : [lo8 (mw b k >>> 24), lo8 (mw b k >>> 16), lo8 (mw b k >>> 8), lo8 (mw b k)] = (b.data.toList.drop (4 * k)).take 4 := by
  have e : mw b k = W4 (b[4 * k]'(by omega)) (b[4 * k + 1]'(by omega)) (b[4 * k + 2]'(by omega)) (b[4 * k + 3]'h) := by unfold mw; rw [dif_pos h]
  rw [e, lo24, lo16, lo88, lo00]
  have hl : b.data.toList.length = b.size := rfl
  rw [List.drop_eq_getElem_cons (by omega), List.drop_eq_getElem_cons (by omega), List.drop_eq_getElem_cons (by omega), List.drop_eq_getElem_cons (by omega)]
  rfl
theorem Pre_data (b : ByteArray) (h : b.size = 64) (k : Nat) (hk : k ≤ 16) : (Pre b k).data.toList = b.data.toList.take (4 * k) := by
  induction k with
  | zero => rfl
  | succ k ih =>
    show (Pre b k ++ _).data.toList = _
    rw [ByteArray.data_append, Array.toList_append, ih (by omega)]
    rw [by4_mw b k (by omega), show 4 * (k + 1) = 4 * k + 4 by omega, List.take_add]
theorem Pre_all (b : ByteArray) (h : b.size = 64) : Pre b 16 = b := by
  apply ByteArray.ext
  apply Array.toList_inj.1
  rw [Pre_data b h 16 (by omega)]
  apply List.take_of_length_le
  show b.data.size ≤ 64
  have : b.data.size = b.size := rfl
  omega
set_option maxRecDepth 100000 in
set_option maxHeartbeats 1000000 in
theorem walkWholeOk (s : ByteArray) (hs : (cutB s).size = 64) (w : World) {a0 a1 : Addr} {B : Nat} (E : Env a0 a1 B w) :
    Calls Tryd.prog 7 #[.string s] w fun e w' => e = .returned (.bool true) ∧ Below w.heap.size w w' := by
  have HE := Lib.hid E
  have HS := Lib.hid hs
  clear E hs
  go_enter Tryd.func7, Tryd.ntmps7
  go_wp2_with fail
  refine (shown_any _ HE.out).mono ?_
  rintro e w1 ⟨rfl, hb1⟩
  have HB1 := Lib.hid hb1
  clear hb1
  go_wp2_with fail
  refine (cut_any s _).mono ?_
  rintro e w2 ⟨rfl, rfl⟩
  go_wp2_with fail
  refine (Schedule_ok (cutB s) HS.out _).mono ?_
  rintro e w3 ⟨G, rfl, hG1, hG2, hcs, hb3⟩
  have HC := Lib.hid hcs
  have HB3 := Lib.hid (HB1.out.trans (hb3.mono HB1.out.size))
  clear hcs hb3
  go_wp2_with fail
  go_loopw [6, 7] (fun t i wr => ∃ k : Nat, k ≤ 16 ∧ i = .int .i64 k ∧ t = .string (Pre (cutB s) k) ∧ (∀ j, j < 64 → wr.cell? ⟨G, j, none⟩ = some (.int .i64 (U (Wd (mw (cutB s)) j)))) ∧ Below w.heap.size w wr) (fun _ i _ => 16 - (intOf i).toNat)
  case atStart => exact ⟨0, by omega, rfl, rfl, HC.out, HB3.out⟩
  case round =>
    obtain ⟨k, hk, rfl, rfl, hcr, hbr⟩ := hrel
    have HCR := Lib.hid hcr
    have HBR := Lib.hid hbr
    clear hcr hbr
    by_cases hlt : k < 16
    · have hc := HCR.out k (by omega)
      rw [Wd_low _ _ hlt] at hc
      have i0 : (k : Int) < 16 := by omega
      have i1 : (k : Int) < 64 := by omega
      go_wp2_with fail
      have hmx : ¬ 9223372036854775807 < (Pre (cutB s) k).size + 4 := by rw [Pre_size]; omega
      have hcv := cv4
      have hcvd := cv4d
      have e24 := q24 (mw (cutB s) k)
      have e16 := q16 (mw (cutB s) k)
      have e8 := q8 (mw (cutB s) k)
      have e0 := q0 (mw (cutB s) k)
      go_region_held (fun w' => w'.cell? ⟨G, k, none⟩ = some (.int .i64 (U (mw (cutB s) k)))) (repeat (first | assumption | apply keepA | apply keepD | apply keepD1)) (first | fail)
      go_wp2
      go_roundw
      case rel =>
        refine ⟨k + 1, by omega, by go_num, rfl, ?_, ?_⟩
        · intro j hj
          exact keepD1 (keepA (HCR.out j hj))
        · exact (HBR.out.alloc HBR.out.size _).drew
      case measure => simp [intOf]; omega
    · obtain rfl : k = 16 := by omega
      go_wp2
      go_ret
      exact ⟨by show Ending.returned (Value.bool ((Pre (cutB s) 16).toList == (cutB s).toList)) = _; rw [Pre_all _ HS.out, beq_self_eq_true], HBR.out⟩
theorem walkRoundsWhole (s : ByteArray) (w : World) (hE : ∃ a0 a1 B, Env a0 a1 B w) :
    Calls Tryd.prog 7 #[.string s] w fun e w' => e = .returned (.bool true) ∧ Below w.heap.size w w' := by
  obtain ⟨a0, a1, B, E⟩ := hE
  by_cases h : (cutB s).size = 64
  · exact walkWholeOk s h w E
  · exact walkWholeBad s h w E

set_option maxRecDepth 100000 in
theorem contractRoundsWhole (H : Type) (enc : TypeId × Value → H) (W : World) (base : Nat) (args : Array Value) (ds gs : List (DataW H)) (before : List MemPlace)
    (hval : ∀ (j : Nat) t v, Tryd.f7.params[j]? = some t → args[j]? = some v → Value.okWide Tryd.prog W .any base t v)
    (hW : DataW.Whole enc Tryd.prog Tryd.f7.params.toList Rows.roundsWholeSpec.vars false W args.toList ds gs before) (hL : laidMetH Tryd.prog laid3 W) :
    Calls Tryd.prog 7 args W fun e W' => ∃ v, e = .returned v ∧ Rows.roundsWholeSpec.post enc Tryd.prog Tryd.f7 false true false false W args v W' := by
  have hW' := hW
  obtain ⟨p, q, hA0, hV, rfl, hfz, hnd⟩ := hW
  have hA : DataW.TrodAll enc Tryd.prog W 0 (fun _ => true) true Tryd.f7.params.toList args.toList ds p := hA0
  rw [Tryd.params7] at hA hval
  obtain ⟨v0, vs0, d0, ds0, p0, q0, hargs, rfl, rfl, h0, r0⟩ := trodAll_cons hA
  obtain ⟨rfl, rfl, rfl⟩ := trodAll_nil r0
  obtain rfl : args = #[v0] := by cases args; simp_all
  obtain ⟨rfl, rfl⟩ := trodVars_none hV
  obtain ⟨s, rfl, rfl, rfl, w0⟩ := open_string Tryd.underlying9 (hval 0 9 v0 rfl rfl) h0
  clear hA0
  simp only [List.append_nil] at hW'
  refine (walkRoundsWhole s W (env_of hL)).mono fun e W' ⟨he, hg⟩ => ?_
  subst he
  refine ⟨_, rfl, _, _, _, [], [], [], hW', ?_, ?_, rfl, hg.frame _, fun h => by cases h⟩
  · exact trodAll_cons_mk (shut_bool Tryd.underlying4 _) trodAll_mk0
  · exact (trodAll_cons_mk (shut_string Tryd.underlying9 w0) trodAll_mk0)

set_option maxRecDepth 100000 in
theorem liftedRoundsWhole (os : Os) (started : os.Started) (H : Type) (enc : TypeId × Value → H) :
    ReturnsInHanded {} Tryd.checked os 7 .any (fun w args => (Rows.roundsWholeSpec.pre enc Tryd.prog Tryd.f7 [] false w args ∧ laidMetH Tryd.prog laid3 w) ∧ sizedMet enc Tryd.prog Tryd.f7 (OpenSpec.ofChange Rows.roundsWholeSpec) false w args)
      (Rows.roundsWholeSpec.post enc Tryd.prog Tryd.f7 false true false false) := by
  refine returnsInHanded_of_change_and (C := Tryd.checked) (X := fun w _ => laidMetH Tryd.prog laid3 w) (fun _ _ _ hh h => h.of_heap hh) own started (by kernel_rfl) Tryd.func7
    (ChangeSpec.witness_shaped (enc := enc) (C := Tryd.checked) (os := os) (X := fun w _ => laidMetH Tryd.prog laid3 w) false (World.doorLaid Tryd.prog 57 os) #[.string .empty] 8 rfl (World.shaped_of_RefB (by kernel_rfl) (by kernel_rfl)) (by kernel_rfl) (by kernel_rfl) (by kernel_rfl) (door_met os _)) ?_
  intro W base args ds gs before hval hW _ _ hL _
  exact contractRoundsWhole H enc W base args ds gs before hval hW hL
theorem roundsWhole_said : Rows.RoundsWholeSaid :=
  OpenClaim.holds_of_wide 7 Tryd.f7 rfl rfl rfl rfl rfl rfl rfl ⟨rfl, rfl, rfl, rfl, rfl⟩ rfl rfl rfl rfl rfl (by kernel_rfl) Tryd.func7 (by kernel_rfl)
    (of_decide_eq_true (by kernel_rfl)) (by unfold Func.isWrapper; first | (rw [if_pos (by decide +kernel)]; kernel_rfl) | (rw [if_neg (by decide +kernel)]; exact ⟨rfl, rfl⟩))
    (fun os started H enc _ => liftedRoundsWhole os started H enc)
/-- THE TIED CARD. -/
theorem roundsWhole_card : Rows.RoundsWholeCardSaid :=
  Claim7.holds_tied_plain_at .later [] _ _ _ _ roundsWhole_said (fun _ h => by cases h) (by kernel_rfl) (fun _ h => by cases h) roundsWhole_row_tie rfl ⟨rfl, rfl⟩ (by kernel_rfl) rfl
    (fun f fn hf hfn => by
      obtain rfl : f = 7 := Option.some.inj ((show Tryd.prog.funcNamed "sigillary/sigillarylaw01.RoundsWhole" = some 7 by kernel_rfl).symm.trans hf) |>.symm
      obtain rfl : fn = Tryd.f7 := (Option.some.inj (Tryd.func7.symm.trans hfn)).symm
      exact ⟨by kernel_rfl, fun j t ht => by
        rw [Tryd.params7] at ht
        have hm : t ∈ [9] := by simpa using Array.mem_of_getElem? ht
        have hall : ([9].all fun u => !Tryd.prog.wantsStandIn u) = true := by kernel_rfl
        exact (show Tryd.prog.wantsStandIn t = false by simpa using List.all_eq_true.1 hall t hm)⟩)
    (by kernel_rfl)
end Go.Proofs.YtohekmioeifpfaaDoor
