/-
  The document's sum of bytes: recoupref01.Sum. Conditions: those of each theorem.
-/
import Derived.Test.YteipcbpkgpffjaaDoorLe
import Derived.Test.YteipcbpkgpffjaaDoorCrc
namespace Go.Proofs.YteipcbpkgpffjaaDoor
open Go.RowKit
set_option maxRecDepth 100000

theorem wrap_u32 {a : Nat} (h : a < 2 ^ 32) : IntKind.u32.wrap (a : Int) = a := by
  have : IntKind.u32.wrap (a : Int) = (a : Int) % 4294967296 := by simp [IntKind.wrap, IntKind.signed, IntKind.bits]
  rw [this]
  omega
theorem bits_xor_u32 {a b : Nat} (ha : a < 2 ^ 32) (hb : b < 2 ^ 32) : bits .xor .u32 (a : Int) (b : Int) = ((a ^^^ b : Nat) : Int) := by
  have hk : IntKind.bits .u32 = 32 := rfl
  unfold bits
  rw [hk]
  simp only [BitVec.ofInt_natCast, BitVec.toNat_xor, BitVec.toNat_ofNat]
  rw [Nat.mod_eq_of_lt ha, Nat.mod_eq_of_lt hb]
  exact wrap_u32 (Nat.xor_lt_two_pow ha hb)
theorem bits_and_u32 {a b : Nat} (ha : a < 2 ^ 32) (hb : b < 2 ^ 32) : bits .and .u32 (a : Int) (b : Int) = ((a &&& b : Nat) : Int) := by
  have hk : IntKind.bits .u32 = 32 := rfl
  unfold bits
  rw [hk]
  simp only [BitVec.ofInt_natCast, BitVec.toNat_and, BitVec.toNat_ofNat]
  rw [Nat.mod_eq_of_lt ha, Nat.mod_eq_of_lt hb]
  exact wrap_u32 (Nat.lt_of_le_of_lt Nat.and_le_left ha)
theorem bits_one_u32 {a : Nat} (ha : a < 2 ^ 32) : bits .and .u32 (a : Int) 1 = ((a % 2 : Nat) : Int) := by
  have h := bits_and_u32 (b := 1) ha (by decide)
  rw [Nat.and_one_is_mod] at h
  exact h
theorem crcBits_lt {S : Nat} (k m : Nat) (h : S < 2 ^ 32) : crcBits k S m < 2 ^ 32 := by
  rw [crcBits_is]
  by_cases hk : k ≤ 32
  · exact crcIter_lt k (Nat.xor_lt_two_pow h (Nat.lt_of_lt_of_le (Nat.mod_lt _ (Nat.pow_pos (by decide))) (Nat.pow_le_pow_right (by decide) hk)))
  · rw [← crcBits_is]
    clear hk
    induction k generalizing S m with
    | zero => exact h
    | succ k ih => exact ih _ (crcStep_lt (Nat.xor_lt_two_pow h (by omega)))
/-- A round of the document's sum. -/
theorem sum_test {T B j : Nat} (hT : T < 2 ^ 32) (hB : B < 2 ^ 8) : (bits .and .u32 (T : Int) 1 != bits .and .u32 ((B : Int) / 2 ^ j % 4294967296) 1) = decide (T % 2 ≠ B / 2 ^ j % 2) := by
  have hle : B / 2 ^ j ≤ B := Nat.div_le_self _ _
  have e : (B : Int) / 2 ^ j % 4294967296 = ((B / 2 ^ j : Nat) : Int) := by
    have : ((B / 2 ^ j : Nat) : Int) = (B : Int) / 2 ^ j := by rw [Int.natCast_ediv, Int.natCast_pow]; rfl
    rw [← this]
    clear this
    generalize B / 2 ^ j = q at *
    omega
  rw [e, bits_one_u32 hT, bits_one_u32 (by omega), Bool.eq_iff_iff, bne_iff_ne, decide_eq_true_iff]
  omega

set_option maxHeartbeats 800000 in
theorem sum_ref (a : Option Addr) (xs : List UInt8) (n c : Nat) (w : World) (hn : xs.length = n) (hx : IsBytes w a xs) (hl : n ≤ maxLen) :
    Calls Tryd.prog 68 #[.slice a n c] w fun e w' => e = .returned (.int .u32 (crcSum xs : Nat)) ∧ w = w' := by
  unfold maxLen at hl
  have HN := Lib.hid hn
  clear hn
  go_enter Tryd.func68, Tryd.ntmps68
  go_wp2
  go_loop [3, 4, 5, 6, 9] (fun s _ _ _ i => ∃ k : Nat, k ≤ n ∧ i = .int .i64 k ∧ s = .int .u32 (crcList 4294967295 (xs.take k) : Nat)) (fun _ _ _ _ i => n - (intOf i).toNat)
  case atStart => exact ⟨0, Nat.zero_le _, rfl, rfl⟩
  case round =>
    obtain ⟨k, hk, rfl, rfl⟩ := hrel
    by_cases hlt : k < n
    · rcases hx with rfl | ⟨b, off, rfl, hb, hcs⟩
      · have := HN.out; simp at this; omega
      have hlk : k < xs.length := by rw [HN.out]; exact hlt
      have hck := hcs k hlk
      clear hcs
      have hk0 : (0 : Int) ≤ (k : Int) := by omega
      have hkn : (k : Int) < (n : Int) := by omega
      have hsn : Hid (crcList 4294967295 (xs.take (k + 1)) = crcBits 8 (crcList 4294967295 (xs.take k)) xs[k].toNat) := by
        show crcList 4294967295 (xs.take (k + 1)) = crcBits 8 (crcList 4294967295 (xs.take k)) xs[k].toNat
        rw [List.take_succ_eq_append_getElem hlk, crcList_snoc, crcBits_byte]
      have hS := crcList_lt (s := 4294967295) (xs.take k) (by decide)
      have hb8 := xs[k].toNat_lt
      generalize crcList 4294967295 (xs.take k) = S at *
      generalize xs[k].toNat = B at *
      go_wp2
      go_loop [3, 5, 6, 12] (fun s _ _ i => ∃ j : Nat, j ≤ 8 ∧ i = .int .i64 j ∧ s = .int .u32 (crcBits j S B : Nat)) (fun _ _ _ i => 8 - (intOf i).toNat)
      case atStart => exact ⟨0, Nat.zero_le _, rfl, rfl⟩
      case round =>
        obtain ⟨j, hj, rfl, rfl⟩ := hrel
        by_cases hlt2 : j < 8
        · have hj0 : (0 : Int) ≤ (j : Int) := by omega
          have hj8 : (j : Int) < 8 := by omega
          have hT := crcBits_lt j B hS
          have htst := sum_test (j := j) hT hb8
          have hnx : crcBits (j + 1) S B = if crcBits j S B % 2 ≠ B / 2 ^ j % 2 then (crcBits j S B / 2) ^^^ poly else crcBits j S B / 2 := by
            rw [crcBits_snoc, crcStep_test]
          have hxr : bits .xor .u32 ((crcBits j S B / 2 : Nat) : Int) ((3988292384 : Nat) : Int) = ((crcBits j S B / 2 ^^^ poly : Nat) : Int) := bits_xor_u32 (by omega) (by decide)
          have HX := Lib.hid hxr
          have HNX := Lib.hid hnx
          have HTT := Lib.hid hT
          clear hxr hnx hT
          by_cases ht : crcBits j S B % 2 ≠ B / 2 ^ j % 2
          · rw [decide_eq_true ht] at htst
            have HT := Lib.hid ht
            clear ht
            go_wp2
            go_round
            case rel =>
              refine ⟨j + 1, by omega, by go_num, ?_⟩
              rw [HNX.out, if_pos HT.out, ← HX.out]
              rfl
            case measure => simp [intOf]; omega
          · rw [decide_eq_false ht] at htst
            have HT := Lib.hid ht
            clear ht
            go_wp2
            go_round
            case rel =>
              refine ⟨j + 1, by omega, by go_num, ?_⟩
              rw [HNX.out, if_neg HT.out]
              rfl
            case measure => simp [intOf]; omega
        · obtain rfl : j = 8 := by omega
          go_wp2
          go_round
          case rel => exact ⟨k + 1, by omega, by go_num, by rw [hsn.out]⟩
          case measure => simp [intOf]; omega
    · obtain rfl : k = n := by omega
      have hf : Hid (xs.take k = xs) := by
        show xs.take k = xs
        rw [← HN.out, List.take_length]
      have hxr : Hid (bits .xor .u32 ((crcList 4294967295 (xs.take k) : Nat) : Int) ((4294967295 : Nat) : Int) = ((crcSum xs : Nat) : Int)) := by
        show bits .xor .u32 ((crcList 4294967295 (xs.take k) : Nat) : Int) ((4294967295 : Nat) : Int) = ((crcSum xs : Nat) : Int)
        rw [bits_xor_u32 (crcList_lt _ (by decide)) (by decide), hf.out]
        rfl
      go_wp2
      go_ret
      exact ⟨congrArg (fun z => Ending.returned (Value.int .u32 z)) hxr.out, rfl⟩
end Go.Proofs.YteipcbpkgpffjaaDoor
