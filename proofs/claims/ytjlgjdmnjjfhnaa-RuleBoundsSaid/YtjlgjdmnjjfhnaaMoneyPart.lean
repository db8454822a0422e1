/-
  A part of a sum: what the code's Part and the document's Part answer: the same. Conditions: those of each theorem.
-/
import Derived.Test.YtjlgjdmnjjfhnaaCentsDiv
namespace Go.Proofs.Ytjlgjdmnjjfhnaa
open Go.RowKit Go.WideShapes
set_option maxRecDepth 100000

def partV (a n o : Int) : Int := if 0 ≤ a ∧ a ≤ 1125899906842624 ∧ 1 ≤ o ∧ 0 ≤ n ∧ n ≤ o then a * n / o else 0

def partE (a n o : Int) : Int := if 0 ≤ a ∧ a ≤ 1125899906842624 then (if 1 ≤ o ∧ 0 ≤ n ∧ n ≤ o then 0 else 1) else 9

theorem part_money {a n o : Int} (h : ¬ (0 ≤ a ∧ a ≤ 1125899906842624)) : partV a n o = 0 ∧ partE a n o = 9 := by
  unfold partV partE
  rw [if_neg (by omega), if_neg h]
  exact ⟨rfl, rfl⟩

theorem part_arg {a n o : Int} (h1 : 0 ≤ a ∧ a ≤ 1125899906842624) (h : ¬ (1 ≤ o ∧ 0 ≤ n ∧ n ≤ o)) : partV a n o = 0 ∧ partE a n o = 1 := by
  unfold partV partE
  rw [if_neg (by omega), if_pos h1, if_neg h]
  exact ⟨rfl, rfl⟩

theorem part_good {a n o : Int} (h1 : 0 ≤ a ∧ a ≤ 1125899906842624) (h : 1 ≤ o ∧ 0 ≤ n ∧ n ≤ o) : partV a n o = a * n / o ∧ partE a n o = 0 := by
  unfold partV partE
  rw [if_pos (by omega), if_pos h1, if_pos h]
  exact ⟨rfl, rfl⟩

theorem part_most {A N O : Nat} (h0 : 0 < O) (h : N ≤ O) : A * N / O ≤ A := by
  rw [Nat.div_le_iff_le_mul_add_pred h0]
  have := Nat.mul_le_mul_left A h
  rw [Nat.mul_comm O A]
  omega

set_option maxHeartbeats 1600000 in
theorem cents_part (a n o : Int) (hn : I64 n) (ho : I64 o) (w : World) :
    Calls Try.prog 24 #[.int .i64 a, .int .i64 n, .int .i64 o] w fun e w' => e = .returned (.tuple #[.int .i64 (partV a n o), .int .i64 (partE a n o)]) ∧ Below w.heap.size w w' := by
  obtain ⟨n1, n2⟩ := hn
  obtain ⟨o1, o2⟩ := ho
  by_cases ha : 0 ≤ a ∧ a ≤ 1125899906842624
  · have hr : Rt a = true := rt_iff.2 ⟨by omega, ha.2⟩
    have a0 : ¬ a < 0 := by omega
    by_cases hg : 1 ≤ o ∧ 0 ≤ n ∧ n ≤ o
    · rw [(part_good ha hg).1, (part_good ha hg).2]
      obtain ⟨g1, g2, g3⟩ := hg
      obtain ⟨A, rfl⟩ := Int.eq_ofNat_of_zero_le ha.1
      obtain ⟨N, rfl⟩ := Int.eq_ofNat_of_zero_le g2
      obtain ⟨O, rfl⟩ := Int.eq_ofNat_of_zero_le (show 0 ≤ o by omega)
      have hm : A * N / 18446744073709551616 < O := by
        rw [Nat.div_lt_iff_lt_mul (by decide)]
        have h1 : A * N ≤ A * O := Nat.mul_le_mul_left A (by omega)
        have h2 : A * O < 18446744073709551616 * O := Nat.mul_lt_mul_of_pos_right (by omega) (by omega)
        rw [Nat.mul_comm O]
        omega
      have hM := fun w => bits_mul64 A N (by omega) (by omega) w
      have hD := fun w => bits_div64 (A * N / 18446744073709551616) (A * N % 18446744073709551616) O hm (Nat.mod_lt _ (by decide)) (by omega) w
      have hmost := part_most (A := A) (N := N) (O := O) (by omega) (by omega)
      rw [show A * N / 18446744073709551616 * 18446744073709551616 + A * N % 18446744073709551616 = A * N from by rw [Nat.mul_comm, Nat.div_add_mod]] at hD
      have hq : (A : Int) * (N : Int) / (O : Int) = ((A * N / O : Nat) : Int) := by rw [Int.natCast_ediv, Int.natCast_mul]
      rw [hq]
      clear hq hm
      generalize A * N / 18446744073709551616 = hi at *
      generalize A * N % 18446744073709551616 = lo at *
      generalize A * N / O = q at *
      have hq2 : (q : Int) ≤ 1125899906842624 := by omega
      have o0 : ¬ (O : Int) ≤ 0 := by omega
      have n0 : ¬ (N : Int) < 0 := by omega
      have c0 : ¬ (O : Int) < (N : Int) := by omega
      go_enter Try.func24, Try.ntmps24
      go_wp2_with fail
      refine (cents_right (A : Int) w).mono ?_
      rintro e w1 ⟨rfl, rfl⟩
      rw [hr]
      go_wp2_with fail
      refine (hM w).mono ?_
      rintro e w1 ⟨rfl, rfl⟩
      go_wp2_with fail
      refine (hD w).mono ?_
      rintro e w1 ⟨⟨r, rfl⟩, b1⟩
      go_wp2
      go_ret2
      exact ⟨rfl, b1⟩
    · rw [(part_arg ha hg).1, (part_arg ha hg).2]
      by_cases g1 : o ≤ 0
      · clear hg
        go_enter Try.func24, Try.ntmps24
        go_wp2_with fail
        refine (cents_right a w).mono ?_
        rintro e w1 ⟨rfl, rfl⟩
        rw [hr]
        go_wp2
        go_ret2
        exact ⟨rfl, Below.refl _ _⟩
      · by_cases g2 : n < 0
        · clear hg
          go_enter Try.func24, Try.ntmps24
          go_wp2_with fail
          refine (cents_right a w).mono ?_
          rintro e w1 ⟨rfl, rfl⟩
          rw [hr]
          go_wp2
          go_ret2
          exact ⟨rfl, Below.refl _ _⟩
        · have g3 : o < n := by omega
          clear hg
          go_enter Try.func24, Try.ntmps24
          go_wp2_with fail
          refine (cents_right a w).mono ?_
          rintro e w1 ⟨rfl, rfl⟩
          rw [hr]
          go_wp2
          go_ret2
          exact ⟨rfl, Below.refl _ _⟩
  · rw [(part_money ha).1, (part_money ha).2]
    by_cases a0 : a < 0
    · clear ha
      go_enter Try.func24, Try.ntmps24
      go_wp2
      go_ret2
      exact ⟨rfl, Below.refl _ _⟩
    · have hr : Rt a = false := rt_not.2 (by omega)
      clear ha
      go_enter Try.func24, Try.ntmps24
      go_wp2_with fail
      refine (cents_right a w).mono ?_
      rintro e w1 ⟨rfl, rfl⟩
      rw [hr]
      go_wp2
      go_ret2
      exact ⟨rfl, Below.refl _ _⟩

/-- One step of the long division: as much more. -/
theorem ref_more (R X O Q : Nat) (hR : R < O) (hX : X ≤ O) (hO : O < 9223372036854775808) (hQ : Q + 1 < 18446744073709551616) (w : World) :
    Calls Try.prog 27 #[.int .u64 R, .int .u64 X, .int .u64 O, .int .u64 Q] w fun e w' => (∃ R' Q' : Nat, e = .returned (.tuple #[.int .u64 R', .int .u64 Q']) ∧ Q' * O + R' = Q * O + R + X ∧ R' < O) ∧ w = w' := by
  have e1 : IntKind.u64.wrap ((O : Int) - (R : Int)) = ((O - R : Nat) : Int) := by rw [wrap_u64']; omega
  by_cases h : O - R ≤ X
  · have h' : ((O - R : Nat) : Int) ≤ (X : Int) := by omega
    have e2 : IntKind.u64.wrap ((X : Int) - ((O - R : Nat) : Int)) = ((X - (O - R) : Nat) : Int) := by rw [wrap_u64']; omega
    have e3 : IntKind.u64.wrap ((Q : Int) + 1) = ((Q + 1 : Nat) : Int) := by rw [wrap_u64']; omega
    have hend : Hid ((Q + 1) * O + (X - (O - R)) = Q * O + R + X ∧ X - (O - R) < O) := by
      show _ ∧ _
      rw [Nat.add_mul, Nat.one_mul]
      omega
    generalize X - (O - R) = R' at *
    generalize Q + 1 = Q' at *
    generalize O - R = D at *
    go_enter Try.func27, Try.ntmps27
    go_wp2
    go_ret2
    exact ⟨⟨R', Q', rfl, hend.out.1, hend.out.2⟩, rfl⟩
  · have h' : ¬ ((O - R : Nat) : Int) ≤ (X : Int) := by omega
    have e2 : IntKind.u64.wrap ((R : Int) + (X : Int)) = ((R + X : Nat) : Int) := by rw [wrap_u64']; omega
    have hend : Hid (Q * O + (R + X) = Q * O + R + X ∧ R + X < O) := by
      show _ ∧ _
      omega
    generalize R + X = R' at *
    generalize O - R = D at *
    go_enter Try.func27, Try.ntmps27
    go_wp2
    go_ret2
    exact ⟨⟨R', Q, rfl, by have := hend.out; omega, hend.out.2⟩, rfl⟩

end Go.Proofs.Ytjlgjdmnjjfhnaa
