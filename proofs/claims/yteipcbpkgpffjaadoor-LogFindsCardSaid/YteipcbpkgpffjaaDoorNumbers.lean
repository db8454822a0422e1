/-
  The document's numbers: recoupref01.Number and Bytes. Conditions: those of each theorem.
-/
import Derived.Test.YteipcbpkgpffjaaDoorLe
namespace Go.Proofs.YteipcbpkgpffjaaDoor
open Go.RowKit
set_option maxRecDepth 100000

set_option maxHeartbeats 800000 in
theorem number_ref (a : Option Addr) (xs : List UInt8) (m c : Nat) (w : World) (hm : xs.length = m) (hx : IsBytes w a xs) (hl : m ≤ maxLen) :
    Calls Tryd.prog 52 #[.slice a m c] w fun e w' => e = .returned (.int .u64 ((u64r (numLe xs) : Nat) : Int)) ∧ w = w' := by
  unfold maxLen at hl
  have HM := Lib.hid hm
  clear hm
  go_enter Tryd.func52, Tryd.ntmps52
  go_wp2
  go_loop [3, 4] (fun v i => ∃ k : Nat, k ≤ m ∧ i = .int .i64 ((k : Int) - 1) ∧ v = .int .u64 ((u64r (numLe (xs.drop k)) : Nat) : Int)) (fun _ i => (intOf i + 1).toNat)
  case atStart => exact ⟨m, Nat.le_refl _, rfl, by rw [← HM.out, List.drop_length]; rfl⟩
  case round =>
    obtain ⟨k, hk, rfl, rfl⟩ := hrel
    by_cases hlt : 0 < k
    · obtain ⟨j, rfl⟩ : ∃ j, k = j + 1 := ⟨k - 1, by omega⟩
      have ej : (((j + 1 : Nat) : Int) - 1) = (j : Int) := by omega
      rw [ej]
      clear ej
      rcases hx with rfl | ⟨b, off, rfl, hb, hcs⟩
      · have := HM.out; simp at this; omega
      have hlj : j < xs.length := by rw [HM.out]; omega
      have hck := hcs j hlj
      clear hcs
      have hj0 : (0 : Int) ≤ (j : Int) := by omega
      have hjm : (j : Int) < (m : Int) := by omega
      have hst := Lib.hid (number_step (numLe (xs.drop (j + 1))) xs[j])
      have hdr := Lib.hid (numLe_drop xs j hlj)
      go_wp2
      go_round
      case rel => exact ⟨j, by omega, rfl, by rw [hdr.out, ← hst.out]⟩
      case measure => simp [intOf]
    · obtain rfl : k = 0 := by omega
      go_wp2
      go_ret
      exact ⟨by simp, rfl⟩

end Go.Proofs.YteipcbpkgpffjaaDoor
