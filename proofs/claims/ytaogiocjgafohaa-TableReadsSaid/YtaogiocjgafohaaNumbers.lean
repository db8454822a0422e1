/-
  The document's numbers: recoupref01.Number and Bytes. Conditions: those of each theorem.
-/
import Derived.Test.YtaogiocjgafohaaLe
namespace Go.Proofs.Ytaogiocjgafohaa
open Go.RowKit
set_option maxRecDepth 100000

set_option maxHeartbeats 800000 in
theorem number_ref (a : Option Addr) (xs : List UInt8) (m c : Nat) (w : World) (hm : xs.length = m) (hx : IsBytes w a xs) (hl : m ≤ maxLen) :
    Calls Try.prog 28 #[.slice a m c] w fun e w' => e = .returned (.int .u64 ((u64r (numLe xs) : Nat) : Int)) ∧ w = w' := by
  unfold maxLen at hl
  have HM := Lib.hid hm
  clear hm
  go_enter Try.func28, Try.ntmps28
  go_wp2
  go_loop [3, 4] (fun v i => ∃ k : Nat, k ≤ m ∧ i = .int .i64 ((k : Int) - 1) ∧ v = .int .u64 ((u64r (numLe (xs.drop k)) : Nat) : Int)) (fun _ i => (intOf i + 1).toNat)
  case atStart => exact ⟨m, Nat.le_refl _, rfl, by rw [← HM.out, List.drop_length]; rfl⟩
  case round =>
    obtain ⟨k, hk, rfl, rfl⟩ := hrel
    by_cases hlt : 0 < k
    · obtain ⟨j, rfl⟩ : ∃ j, k = j + 1 := ⟨k - 1, by omega⟩
      have ej : (((j + 1 : Nat) : Int) - 1) = (j : Int) := by omega
      rw [ej]
      clear ej
      rcases hx with rfl | ⟨b, off, rfl, hb, hcs⟩
      · have := HM.out; simp at this; omega
      have hlj : j < xs.length := by rw [HM.out]; omega
      have hck := hcs j hlj
      clear hcs
      have hj0 : (0 : Int) ≤ (j : Int) := by omega
      have hjm : (j : Int) < (m : Int) := by omega
      have hst := Lib.hid (number_step (numLe (xs.drop (j + 1))) xs[j])
      have hdr := Lib.hid (numLe_drop xs j hlj)
      go_wp2
      go_round
      case rel => exact ⟨j, by omega, rfl, by rw [hdr.out, ← hst.out]⟩
      case measure => simp [intOf]
    · obtain rfl : k = 0 := by omega
      go_wp2
      go_ret
      exact ⟨by simp, rfl⟩

set_option maxHeartbeats 800000 in
theorem bytes_ref (v : Int) (size : Nat) (w : World) (hv : 0 ≤ v) (hv1 : v ≤ 18446744073709551615) (hs : size ≤ 1000) :
    Calls Try.prog 23 #[.int .u64 v, .int .i64 size] w fun e w' => (∃ a c, e = .returned (.slice a size c) ∧ w'.ownsRow w.heap.size 5 1 (.slice a size c) size ((le v size).map bval)) ∧ Below w.heap.size w w' := by
  have HV := Lib.hid hv1
  clear hv1
  go_enter Try.func23, Try.ntmps23
  go_wp2
  go_loopw [0, 5, 7] (fun x s i wr => ∃ k : Nat, k ≤ size ∧ i = .int .i64 k ∧ x = .int .u64 (v / 2 ^ (8 * k)) ∧ (∃ a c, s = .slice a k c ∧ wr.ownsRow w.heap.size 5 1 (.slice a k c) k ((le v k).map bval)) ∧ Below w.heap.size w wr) (fun _ _ i _ => size - (intOf i).toNat)
  case atStart => exact ⟨0, Nat.zero_le _, rfl, by simp, ⟨none, 0, rfl, World.ownsRow_nil _ _ _ _⟩, Below.refl _ _⟩
  case round =>
    obtain ⟨k, hk, rfl, rfl, ⟨a, c, rfl, hr⟩, hb⟩ := hrel
    by_cases hlt : k < size
    · have hk0 : (0 : Int) ≤ (k : Int) := by omega
      have hks : (k : Int) < (size : Int) := by omega
      have hq : 0 ≤ v / 2 ^ (8 * k) := Int.ediv_nonneg hv (Int.pow_nonneg (by decide))
      have hown : (wr.alloc (.cells #[.int .u8 (v / 2 ^ (8 * k) % 256)] 5)).ownsRow w.heap.size 5 1 (.slice a k c) k ((le v k).map bval) :=
        ownsRow_upd (S := fun _ => False) hr ((Upd.refl _ _).alloc _) (fun _ _ h => h)
      have hy : IsBytes (wr.alloc (.cells #[.int .u8 (v / 2 ^ (8 * k) % 256)] 5)) (some ⟨wr.heap.size, 0, none⟩) [byteAt v k] := by
        refine .inr ⟨_, _, rfl, by simp, fun i hi => ?_⟩
        obtain rfl : i = 0 := by simpa using hi
        rw [List.getElem_singleton, byteAt_int]
        simp
      have hbs := hb.size
      have hz : w.heap.size ≤ (wr.alloc (.cells #[.int .u8 (v / 2 ^ (8 * k) % 256)] 5)).heap.size := by simp; omega
      have hlb : k + 1 ≤ 140737488355328 := by omega
      have hsn : Hid (le v (k + 1) = le v k ++ [byteAt v k]) := by
        show le v (k + 1) = le v k ++ [byteAt v k]
        simp [le, List.range_succ]
      have hdv := Lib.hid (div_step v k hv HV.out)
      clear hr
      go_wp2_with (at_builtin; refine wpList_append_bytes rfl _ _ 24 rfl w.heap.size 5 Try.underlying24 u8_info (.slice a k c) k (le v k) rfl hown (some ⟨wr.heap.size, 0, none⟩) [byteAt v k] 1 rfl 1 rfl hy (fun x => by cases x) hlb hz ?_; intro a' c' w' h1 h2 h3)
      go_roundw
      case rel =>
        rw [← hsn.out] at h1
        refine ⟨k + 1, by omega, by go_num, by rw [hdv.out], ⟨a', c', rfl, h1⟩, ?_⟩
        exact (hb.alloc hbs _).grown h2 (by simp; omega) (fun j hj => own_ge hown hj)
      case measure => simp [intOf]; omega
    · obtain rfl : k = size := by omega
      go_wp2
      go_ret
      exact ⟨⟨a, c, rfl, hr⟩, hb⟩
end Go.Proofs.Ytaogiocjgafohaa
