/-
  Package cents: Points; what a part is at most. Conditions: those of each theorem.
-/
import Derived.Test.YtjlgjdmnjjfhnaaMoneyPart
namespace Go.Proofs.Ytjlgjdmnjjfhnaa
open Go.RowKit
set_option maxRecDepth 100000

theorem cents_points (a n : Int) (hn : I64 n) (w : World) : Calls Try.prog 19 #[.int .i64 a, .int .i64 n] w fun e w' => e = .returned (.tuple #[.int .i64 (partV a n 10000), .int .i64 (partE a n 10000)]) ∧ Below w.heap.size w w' := by
  have hP := fun w => cents_part a n 10000 hn ⟨by decide, by decide⟩ w
  generalize partV a n 10000 = v at *
  generalize partE a n 10000 = f at *
  go_enter Try.func19, Try.ntmps19
  go_wp2_with fail
  refine (hP w).mono ?_
  rintro e w1 ⟨rfl, b1⟩
  go_wp2
  go_ret2
  exact ⟨rfl, b1⟩

theorem part_bounds (a n o : Int) : partE a n o ≠ 0 ∨ (0 ≤ partV a n o ∧ partV a n o ≤ a) := by
  by_cases ha : 0 ≤ a ∧ a ≤ 1125899906842624
  · by_cases hg : 1 ≤ o ∧ 0 ≤ n ∧ n ≤ o
    · right
      rw [(part_good ha hg).1]
      obtain ⟨g1, g2, g3⟩ := hg
      obtain ⟨A, rfl⟩ := Int.eq_ofNat_of_zero_le ha.1
      obtain ⟨N, rfl⟩ := Int.eq_ofNat_of_zero_le g2
      obtain ⟨O, rfl⟩ := Int.eq_ofNat_of_zero_le (show 0 ≤ o by omega)
      have hmost := part_most (A := A) (N := N) (O := O) (by omega) (by omega)
      have hq : (A : Int) * (N : Int) / (O : Int) = ((A * N / O : Nat) : Int) := by rw [Int.natCast_ediv, Int.natCast_mul]
      rw [hq]
      generalize A * N / O = q at *
      omega
    · left
      rw [(part_arg ha hg).2]
      decide
  · left
    rw [(part_money ha).2]
    decide

end Go.Proofs.Ytjlgjdmnjjfhnaa
